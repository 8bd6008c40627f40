package packet_test

import (
	"math"
	"math/rand"
	"testing"

	"sectime/api"
	"sectime/packet"
)

func checkValid(t *testing.T, h api.Header, want api.Errno) {
	t.Helper()
	if got := packet.Valid(h); got != want {
		t.Fatalf("Valid of %+v is %v, want %v", h, got, want)
	}
}

func TestKnownValid(t *testing.T) {
	for _, h := range headers() {
		checkValid(t, h, api.OK)
	}
	for _, h := range invalid() {
		checkValid(t, h, api.ErrRange)
	}
}

// Every number from far below its range to far above it, in headers that are otherwise valid.
func TestValid(t *testing.T) {
	for _, n := range numbers() {
		for _, h := range []api.Header{{Version: 3}, {Version: 4, Mode: 3}, sample()} {
			for value := -600; value <= 600; value++ {
				*n.of(&h) = value
				checkValid(t, h, standardValid(h))
			}
			for _, value := range outside(n.least, n.greatest) {
				*n.of(&h) = value
				checkValid(t, h, api.ErrRange)
			}
		}
	}
}

// What has no range takes part in no error.
func TestValidOfAnyStamps(t *testing.T) {
	r := rand.New(rand.NewSource(19))
	for range 200 {
		h := randomHeader(r)
		checkValid(t, h, api.OK)
		h.Version = 5
		checkValid(t, h, api.ErrRange)
	}
}

// stamps are wire timestamps.
func stamps() []uint64 {
	return []uint64{0, 1, 77, 1 << 31, 1 << 32, 1<<32 + 1<<31, 1 << 63, 1<<63 - 1, math.MaxUint64 - 1, math.MaxUint64}
}

func TestAsk(t *testing.T) {
	for _, transmit := range stamps() {
		want := api.Header{Version: 4, Mode: 3, Poll: 6, Transmit: transmit}
		if got := packet.Ask(transmit); got != want {
			t.Fatalf("Ask of %d is %+v, want %+v", transmit, got, want)
		}
	}
}

// The bytes of two questions differ in their Transmit alone.
func TestBytesOfQuestions(t *testing.T) {
	for _, transmit := range stamps() {
		want := make([]byte, 48)
		want[0], want[2] = 4<<3|3, 6
		for k := range 8 {
			want[47-k] = byte(transmit >> (8 * k))
		}
		checkEncode(t, packet.Ask(transmit), want)
	}
}

func checkReply(t *testing.T, q api.Header, stratum int, receive, transmit uint64) {
	t.Helper()
	want, wanted := standardReply(q, stratum, receive, transmit)
	if got, e := packet.Reply(q, stratum, receive, transmit); got != want || e != wanted {
		t.Fatalf("Reply to %+v with %d, %d and %d is %+v and %v, want %+v and %v", q, stratum, receive, transmit, got, e, want, wanted)
	}
}

func TestKnownReplies(t *testing.T) {
	asked := packet.Ask(9)
	full := sample()
	full.Mode = 3
	other, refused := sample(), sample()
	refused.Version = 5
	for _, c := range []struct {
		q       api.Header
		stratum int
		want    api.Header
		e       api.Errno
	}{
		{asked, 1, api.Header{Version: 4, Mode: 4, Stratum: 1, Poll: 6, Precision: -20, Origin: 9, Receive: 20, Transmit: 21}, api.OK},
		{asked, 0, api.Header{Version: 4, Mode: 4, Poll: 6, Precision: -20, Origin: 9, Receive: 20, Transmit: 21}, api.OK},
		{full, 255, api.Header{Version: 3, Mode: 4, Stratum: 255, Poll: -2, Precision: -20, Origin: full.Transmit, Receive: 20, Transmit: 21}, api.OK},
		{asked, 256, api.Header{}, api.ErrRange},
		{asked, -1, api.Header{}, api.ErrRange},
		// A mode that asks nothing comes before the stratum, and a header that is not valid before the mode.
		{other, 1, api.Header{}, api.ErrForm},
		{other, 256, api.Header{}, api.ErrForm},
		{other, -1, api.Header{}, api.ErrForm},
		{refused, 1, api.Header{}, api.ErrRange},
		{api.Header{}, 256, api.Header{}, api.ErrRange},
	} {
		if got, e := packet.Reply(c.q, c.stratum, 20, 21); got != c.want || e != c.e {
			t.Fatalf("Reply to %+v with %d is %+v and %v, want %+v and %v", c.q, c.stratum, got, e, c.want, c.e)
		}
	}
}

func TestReplies(t *testing.T) {
	r := rand.New(rand.NewSource(20))
	for _, q := range headers() {
		for mode := range 8 {
			q.Mode = mode
			for _, stratum := range append(outside(0, 255), 0, 1, 2, 254, 255, r.Intn(256)) {
				checkReply(t, q, stratum, r.Uint64(), r.Uint64())
			}
		}
	}
}

func TestRepliesOfAllStrata(t *testing.T) {
	for stratum := -300; stratum <= 600; stratum++ {
		checkReply(t, packet.Ask(5), stratum, 6, 7)
	}
}

func TestRepliesWithStamps(t *testing.T) {
	for _, asked := range stamps() {
		for _, receive := range stamps() {
			for _, transmit := range stamps() {
				checkReply(t, packet.Ask(asked), 1, receive, transmit)
			}
		}
	}
}

// An answer is valid, and answered by nothing.
func TestAnswers(t *testing.T) {
	r := rand.New(rand.NewSource(21))
	for range 200 {
		q := randomHeader(r)
		q.Mode = 3
		a, e := packet.Reply(q, r.Intn(256), r.Uint64(), r.Uint64())
		if e != api.OK {
			t.Fatal(q, e)
		}
		checkValid(t, a, api.OK)
		if again, e := packet.Reply(a, 1, 2, 3); e != api.ErrForm || again != (api.Header{}) {
			t.Fatalf("Reply to the answer %+v is %+v and %v", a, again, e)
		}
	}
}

func TestRepliesToInvalid(t *testing.T) {
	for _, q := range invalid() {
		for _, mode := range []int{q.Mode, 3} {
			q.Mode = mode
			for _, stratum := range []int{-1, 0, 255, 256, math.MinInt, math.MaxInt} {
				checkReply(t, q, stratum, 6, 7)
			}
		}
	}
}
