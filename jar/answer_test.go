package jar_test

import (
	"bytes"
	"math/rand"
	"slices"
	"testing"

	"sectime/api"
	"sectime/jar"
	"sectime/packet"
	"sectime/protect"
)

func field(kind int, data []byte) api.Field { return api.Field{Type: kind, Data: data} }

// answer is the packet of a server that sends these cookies.
func answer(cookies ...[]byte) api.Packet {
	head, _ := packet.Reply(packet.Ask(transmit), 1, 5, 6)
	p := api.Packet{Head: head, Plain: []api.Field{field(api.ExtUnique, unique())}, Guarded: true}
	for _, b := range cookies {
		p.Secret = append(p.Secret, field(api.ExtCookie, b))
	}
	return p
}

// answerOf are the bytes of a server's packet.
func answerOf(t *testing.T, p api.Packet) []byte {
	t.Helper()
	b, e := protect.Protect(pair().Down, p, nonce())
	if e != api.OK {
		t.Fatalf("Protect of %v returns %v", p, e)
	}
	return b
}

// The sealed bytes were computed by another program, with the AES-SIV of OpenSSL: a cookie, and a field of another type.
func TestKnownAnswer(t *testing.T) {
	b := unhex(t, "240106ec000000000000000000000000000000000000000011223344556677880000000000000005000000000000000601040024c8c9cacbcccdcecfd0d1d2d3d4d5d6d7d8d9dadbdcdddedfe0e1e2e3e4e5e6e7")
	sealed := unhex(t, "c55a3e8b4d6792b98698f660f8eb3ea8f2ca6af29725ff9c754008c9f5eb581b20968952655bf7fa8db4e7af06b2378440c1b3613b980d07ca303573ec71b3724c2a6e4bc349ff67d029d7302c45fcdca30dda40aded7d96bd59f7735a307fa12bd83c22c92a679fc8ef836f31f8fec3ed434fbe19c12362af1cebb29e2debf9afd50d034de1b9126b15f661")
	b = append(b, fieldBytes(0x0404, slices.Concat([]byte{0, 16, 0, 140}, nonce(), sealed))...)
	wanted := answer(numbered(9))
	wanted.Secret = append(wanted.Secret, field(7, append([]byte{1}, make([]byte, 11)...)))
	j, p, e := jar.Answer(some(4), unique(), b)
	if e != api.OK || !sameJar(j, some(4, 9)) || !samePacket(p, wanted) {
		t.Errorf("Answer is %v, %v and %v, want the cookies 4 and 9, and %v", j, p, e, wanted)
	}
}

func TestAnswer(t *testing.T) {
	other := field(7, make([]byte, 12))
	for k, c := range []struct {
		have   []int
		secret []api.Field
		want   []int
	}{
		{[]int{2}, nil, []int{2}},
		{nil, nil, nil},
		{nil, []api.Field{field(api.ExtCookie, numbered(3))}, []int{3}},
		{[]int{2}, []api.Field{field(api.ExtCookie, numbered(3)), field(api.ExtCookie, numbered(4))}, []int{2, 3, 4}},
		{[]int{2}, []api.Field{field(api.ExtCookie, numbered(4)), field(api.ExtCookie, numbered(3))}, []int{2, 4, 3}},
		{[]int{2}, []api.Field{field(api.ExtCookie, numbered(99)), field(api.ExtCookie, numbered(2)), field(api.ExtCookie, numbered(5)), field(api.ExtCookie, numbered(5))}, []int{2, 5}},
		// Fields of other types say nothing, wherever they stand and whatever their length is.
		{[]int{2}, []api.Field{other, field(api.ExtCookie, numbered(3)), field(api.ExtPlaceholder, numbered(4)), field(api.ExtUnique, numbered(5)), field(api.ExtAuth, numbered(6)), field(api.ExtCookie, numbered(7)), other}, []int{2, 3, 7}},
		{to(7), []api.Field{field(api.ExtCookie, numbered(20)), field(api.ExtCookie, numbered(21)), field(api.ExtCookie, numbered(22))}, []int{1, 2, 3, 4, 5, 6, 7, 20}},
		{to(8), []api.Field{field(api.ExtCookie, numbered(20))}, to(8)},
	} {
		p := answer()
		p.Secret = c.secret
		b := answerOf(t, p)
		j, got, e := jar.Answer(some(c.have...), unique(), b)
		if e != api.OK || !sameJar(j, some(c.want...)) || !samePacket(got, p) {
			t.Errorf("Answer, case %d: %v, %v and %v, want the cookies %v, and %v", k, j, got, e, c.want, p)
		}
		checkAnswer(t, some(c.have...), unique(), b)
	}
}

// Cookies that are not sealed are not put into the jar, whatever their length is, and other plain fields do not count.
func TestAnswerWithPlainFields(t *testing.T) {
	for _, plain := range [][]api.Field{
		{field(api.ExtCookie, numbered(3)), field(api.ExtUnique, unique())},
		{field(api.ExtUnique, unique()), field(api.ExtCookie, counted(1, 108))},
		{field(0, unique()), field(api.ExtUnique, unique()), field(api.ExtPlaceholder, unique()), field(65535, nil)},
	} {
		p := answer(numbered(4))
		p.Plain = plain
		b := answerOf(t, p)
		if j, _, e := checkAnswer(t, some(2), unique(), b); e != api.OK || !sameJar(j, some(2, 4)) {
			t.Errorf("Answer with %v is %v and %v", plain, j, e)
		}
	}
}

// Of the header only the Mode counts.
func TestAnswerOfOtherHeaders(t *testing.T) {
	for mode := range 8 {
		for _, version := range []int{3, 4} {
			p := answer(numbered(3))
			p.Head = api.Header{Leap: 3, Version: version, Mode: mode, Stratum: 0, RefID: 77, Origin: 8}
			want := api.ErrForm
			if mode == 4 {
				want = api.OK
			}
			if _, _, e := checkAnswer(t, some(2), unique(), answerOf(t, p)); e != want {
				t.Errorf("Answer of the version %d with the mode %d returns %v, want %v", version, mode, e, want)
			}
		}
	}
}

// Each case has, beside its own error, others that come later.
func TestAnswerErrors(t *testing.T) {
	mine, other := field(api.ExtUnique, unique()), field(api.ExtUnique, counted(201, 32))
	longer := field(api.ExtUnique, append(unique(), 0, 0, 0, 0))
	bad := field(api.ExtCookie, counted(1, 108))
	for k, c := range []struct {
		mode          int
		plain, secret []api.Field
		want          api.Errno
	}{
		{3, nil, []api.Field{bad}, api.ErrForm},
		{5, []api.Field{mine}, nil, api.ErrForm},
		{0, []api.Field{other}, []api.Field{bad}, api.ErrForm},
		{4, nil, []api.Field{bad}, api.ErrState},
		{4, nil, nil, api.ErrState},
		{4, []api.Field{other}, []api.Field{bad}, api.ErrState},
		{4, []api.Field{mine, mine}, nil, api.ErrState},
		{4, []api.Field{mine, other}, nil, api.ErrState},
		{4, []api.Field{other, mine}, []api.Field{bad}, api.ErrState},
		{4, []api.Field{longer}, nil, api.ErrState},
		{4, []api.Field{field(api.ExtUnique, unique()[:28])}, nil, api.ErrState},
		{4, []api.Field{field(api.ExtCookie, unique())}, nil, api.ErrState},
		// An identifier that is sealed is none.
		{4, nil, []api.Field{mine}, api.ErrState},
		{4, []api.Field{mine}, []api.Field{mine}, api.OK},
		{4, []api.Field{mine}, []api.Field{bad}, api.ErrForm},
		{4, []api.Field{mine}, []api.Field{field(api.ExtCookie, numbered(3)), bad}, api.ErrForm},
		{4, []api.Field{mine}, []api.Field{bad, field(api.ExtCookie, numbered(3))}, api.ErrForm},
		{4, []api.Field{mine}, []api.Field{field(7, nil), field(api.ExtCookie, nil), field(7, nil)}, api.ErrForm},
		{4, []api.Field{mine}, []api.Field{field(api.ExtCookie, numbered(3)), field(7, nil)}, api.OK},
	} {
		p := answer()
		p.Head.Mode, p.Plain, p.Secret = c.mode, c.plain, c.secret
		b := answerOf(t, p)
		// A jar that is full does not take any of the cookies, but their lengths count all the same.
		for _, j := range []api.Jar{some(2), some(to(8)...)} {
			if _, _, e := checkAnswer(t, j, unique(), b); e != c.want {
				t.Errorf("Answer, case %d: %v, want %v", k, e, c.want)
			}
		}
		for _, size := range []int{0, 31, 33} {
			if _, _, e := checkAnswer(t, some(2), counted(200, size), b); e != api.ErrForm {
				t.Errorf("Answer, case %d, with %d bytes: %v", k, size, e)
			}
		}
		// What the other key protects is not open, so that nothing in it is an error.
		up, _ := protect.Protect(pair().Up, p, nonce())
		if _, _, e := checkAnswer(t, some(2), unique(), up); e != api.ErrAuth {
			t.Errorf("Answer, case %d, with the key Up: %v", k, e)
		}
	}
}

// The data of a sealed cookie are those of which the answer has the bytes, with zeros behind them.
func TestAnswerOfCookiesOfAllLengths(t *testing.T) {
	for size := range 220 {
		b := answerOf(t, answer(numbered(3), counted(1, size)))
		want := api.ErrForm
		if size > 100 && size <= 104 {
			want = api.OK
		}
		if _, _, e := checkAnswer(t, some(2), unique(), b); e != want {
			t.Errorf("Answer with a cookie of %d bytes returns %v, want %v", size, e, want)
		}
	}
}

func TestAnswerThatDoesNotOpen(t *testing.T) {
	good := answerOf(t, answer(numbered(3)))
	bare, _ := protect.Bare(api.Packet{Head: answer().Head, Plain: answer().Plain})
	_, question, _ := jar.Question(some(1), transmit, unique(), nonce())
	for k, c := range []struct {
		b    []byte
		want api.Errno
	}{
		{nil, api.ErrShort},
		{good[:47], api.ErrShort},
		{make([]byte, 1281), api.ErrLong},
		{make([]byte, 48), api.ErrForm},
		{good[:48], api.ErrNone},
		{good[:len(good)-1], api.ErrShort},
		{bare, api.ErrNone},
		{append(bytes.Clone(good), fieldBytes(1, make([]byte, 12))...), api.ErrForm},
		{question, api.ErrAuth},
		{good, api.OK},
	} {
		if _, _, e := checkAnswer(t, some(2), unique(), c.b); e != c.want {
			t.Errorf("Answer, case %d: %v, want %v", k, e, c.want)
		}
		if _, _, e := checkAnswer(t, some(2), unique()[:31], c.b); e != api.ErrForm {
			t.Errorf("Answer, case %d, with 31 bytes: %v", k, e)
		}
	}
	for size := range good {
		checkAnswer(t, some(2), unique(), good[:size])
	}
}

// No bit of an answer, of the identifier or of the key Down can be another one.
func TestAnswerOfChangedBits(t *testing.T) {
	good := answerOf(t, answer(numbered(3)))
	for k := range 8 * len(good) {
		b := bytes.Clone(good)
		b[k/8] ^= 1 << (k % 8)
		if _, _, e := checkAnswer(t, some(2), unique(), b); e == api.OK {
			t.Errorf("with another bit %d, Answer accepts the bytes", k)
		}
	}
	for k := range 256 {
		id, j := unique(), some(2)
		id[k/8] ^= 1 << (k % 8)
		if _, _, e := checkAnswer(t, j, id, good); e != api.ErrState {
			t.Errorf("with another bit %d of the identifier, Answer returns %v", k, e)
		}
		j.Keys.Down[k/8] ^= 1 << (k % 8)
		if _, _, e := checkAnswer(t, j, unique(), good); e != api.ErrAuth {
			t.Errorf("with another bit %d of the key, Answer returns %v", k, e)
		}
		j = some(2)
		j.Keys.Up[k/8] ^= 1 << (k % 8)
		if _, _, e := checkAnswer(t, j, unique(), good); e != api.OK {
			t.Errorf("with another bit %d of the key Up, Answer returns %v", k, e)
		}
	}
}

func TestAnswerOfRandomPackets(t *testing.T) {
	r := rand.New(rand.NewSource(25))
	counts := map[api.Errno]int{}
	for range 3000 {
		p := answer()
		p.Head.Mode = []int{4, 4, 4, 4, 4, 3}[r.Intn(6)]
		p.Plain = nil
		for range r.Intn(4) {
			p.Plain = append(p.Plain, field([]int{api.ExtUnique, 7, api.ExtCookie}[r.Intn(3)], counted(200+r.Intn(8)/7, 32)))
		}
		for range r.Intn(9) {
			kind := []int{api.ExtCookie, api.ExtCookie, 7, api.ExtPlaceholder}[r.Intn(4)]
			p.Secret = append(p.Secret, field(kind, counted(r.Intn(20), 104+r.Intn(15)/14*4)))
		}
		j := randomJar(r)
		_, _, e := checkAnswer(t, j, unique(), answerOf(t, p))
		counts[e]++
	}
	for _, e := range []api.Errno{api.OK, api.ErrForm, api.ErrState} {
		if counts[e] < 200 {
			t.Errorf("the error %v comes %d times", e, counts[e])
		}
	}
}
