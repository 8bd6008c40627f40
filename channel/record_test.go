package channel_test

import (
	"bytes"
	"math"
	"math/rand"
	"slices"
	"testing"

	"sectime/api"
	"sectime/channel"
)

// checkSend compares Send with the definition, and with the error that is wanted.
func checkSend(t *testing.T, c api.Channel, kind int, b []byte, e api.Errno) sent {
	t.Helper()
	n, record, f := channel.Send(c, kind, b)
	got, want := sent{n, record, f}, standardSend(t, c, kind, b)
	if want.e != e {
		t.Fatalf("the definition has %v, and not %v", want.e, e)
	}
	if !got.same(want) {
		t.Fatalf("with %v, Send of %d and %d bytes is %v, want %v", c, kind, len(b), got, want)
	}
	return got
}

// checkReceive compares Receive with the definition, and with the error that is wanted.
func checkReceive(t *testing.T, c api.Channel, record []byte, e api.Errno) received {
	t.Helper()
	n, kind, b, f := channel.Receive(c, record)
	got, want := received{n, kind, b, f}, standardReceive(t, c, record)
	if want.e != e {
		t.Fatalf("the definition has %v, and not %v", want.e, e)
	}
	if !got.same(want) {
		t.Fatalf("with %v, Receive of %d bytes is %v, want %v", c, len(record), got, want)
	}
	return got
}

// The records were computed by another program, with the AES-SIV of OpenSSL.
func TestKnownRecords(t *testing.T) {
	for k, w := range knowns() {
		client, _ := channel.Begin(true, w.secret, w.hello)
		server, _ := channel.Begin(false, w.secret, w.hello)
		for _, c := range []struct {
			from, to api.Channel
			count    int
			kind     int
			b        []byte
			want     string
		}{
			{client, server, 0, 22, []byte("first"), w.first},
			{client, server, most - 1, 255, counted(0, 20), w.last},
			{server, client, 0x0102030405, 0, []byte("an answer"), w.answer},
			{server, client, 1, 7, nil, w.nothing},
		} {
			n, record, e := channel.Send(at(c.from, c.count, 4), c.kind, c.b)
			if e != api.OK || !bytes.Equal(record, unhex(t, c.want)) || !sameChannel(n, at(c.from, c.count+1, 4)) {
				t.Errorf("channel %d: Send of %d and %x is %v, %x and %v, want %s", k, c.kind, c.b, n, record, e, c.want)
			}
			n, kind, b, e := channel.Receive(at(c.to, 6, c.count), unhex(t, c.want))
			if e != api.OK || kind != c.kind || !bytes.Equal(b, c.b) || !sameChannel(n, at(c.to, 6, c.count+1)) {
				t.Errorf("channel %d: Receive of %s is %v, %d, %x and %v, want %d and %x", k, c.want, n, kind, b, e, c.kind, c.b)
			}
		}
	}
}

// other is the other end of a channel that has received and sent as many records.
func other(t *testing.T, c api.Channel) api.Channel {
	t.Helper()
	return at(standardEnd(t, !c.Client, c.Secret), c.Received, c.Sent)
}

// deliver sends bytes from one end to the other, and returns both.
func deliver(t *testing.T, from, to api.Channel, kind int, b []byte) (api.Channel, api.Channel) {
	t.Helper()
	s := checkSend(t, from, kind, b, api.OK)
	r := checkReceive(t, to, s.record, api.OK)
	if r.kind != kind || !bytes.Equal(r.b, b) || len(s.record) != len(b)+19 {
		t.Fatalf("%d and %x were sent, and %d and %x received", kind, b, r.kind, r.b)
	}
	if !channel.Valid(s.c) || !channel.Valid(r.c) {
		t.Fatal("a channel is not valid any more")
	}
	return s.c, r.c
}

func TestSendAndReceive(t *testing.T) {
	random := rand.New(rand.NewSource(2022))
	for _, c := range valid(t) {
		for range 4 {
			kind, b := random.Intn(256), randomBytes(random, random.Intn(100))
			if c.Sent == most {
				checkSend(t, c, kind, b, api.ErrState)
				continue
			}
			deliver(t, c, other(t, c), kind, b)
		}
	}
	client, server := ends(t)
	for kind := range 256 {
		deliver(t, client, server, kind, counted(kind, kind%40))
		client, server = deliver(t, client, server, kind, nil)
	}
	for size := range 300 {
		server, client = deliver(t, server, client, size%256, counted(size, size))
	}
	for _, size := range []int{1000, 8191, 8192, 16367, 16368, 16383, 16384} {
		client, server = deliver(t, client, server, 23, counted(size, size))
	}
}

// Both ends send as they like, and all that was sent is received in its order.
func TestTalk(t *testing.T) {
	random := rand.New(rand.NewSource(2023))
	client, server := ends(t)
	for k := range 2000 {
		if random.Intn(2) == 0 {
			client, server = deliver(t, client, server, k%256, randomBytes(random, random.Intn(30)))
		} else {
			server, client = deliver(t, server, client, k%256, randomBytes(random, random.Intn(30)))
		}
		if k%500 == 499 {
			fresh := randomBytes(random, 16)
			client, server = checkRenew(t, client, fresh), checkRenew(t, server, fresh)
		}
	}
}

// Of several records each one is received only at its own place, and only at the other end.
func TestOrderOfRecords(t *testing.T) {
	client, server := ends(t)
	var up, down [][]byte
	for range 6 {
		a, b := checkSend(t, client, 1, []byte("the same bytes"), api.OK), checkSend(t, server, 1, []byte("the same bytes"), api.OK)
		up, down = append(up, a.record), append(down, b.record)
		client, server = a.c, b.c
	}
	for place := range up {
		for k := range up {
			want := api.ErrAuth
			if k == place {
				want = api.OK
			}
			checkReceive(t, at(server, 6, place), up[k], want)
			checkReceive(t, at(client, 6, place), down[k], want)
			checkReceive(t, at(client, 6, place), up[k], api.ErrAuth)
			checkReceive(t, at(server, 6, place), down[k], api.ErrAuth)
		}
	}
	// Numbers that agree in their low bytes, and in all but one bit.
	record := standardRecord(t, client.SendKey, 5, head(1, 16), nil)
	for k := range 40 {
		checkReceive(t, at(server, 0, 5^1<<k), record, api.ErrAuth)
	}
	checkReceive(t, at(server, 0, 5), record, api.OK)
	// Records of a channel with another secret.
	checkReceive(t, standardEnd(t, false, counted(0x41, 32)), up[0], api.ErrAuth)
}

// A record is the same for the same arguments, and another one for others.
func TestOtherRecords(t *testing.T) {
	client, server := ends(t)
	seen := map[string]int{}
	for k, s := range []sent{
		checkSend(t, client, 1, []byte("some bytes"), api.OK),
		checkSend(t, server, 1, []byte("some bytes"), api.OK),
		checkSend(t, client, 2, []byte("some bytes"), api.OK),
		checkSend(t, client, 1, []byte("some bytez"), api.OK),
		checkSend(t, client, 1, []byte("some byte"), api.OK),
		checkSend(t, at(client, 1, 0), 1, []byte("some bytes"), api.OK),
		checkSend(t, at(client, 256, 0), 1, []byte("some bytes"), api.OK),
		checkSend(t, at(client, 1<<32, 0), 1, []byte("some bytes"), api.OK),
	} {
		if first, ok := seen[string(s.record[3:])]; ok {
			t.Errorf("cases %d and %d have the same sealed bytes", first, k)
		}
		seen[string(s.record[3:])] = k
	}
	// The records that were received have no part in it.
	a, b := checkSend(t, at(client, 9, 0), 1, nil, api.OK), checkSend(t, at(client, 9, most), 1, nil, api.OK)
	if !bytes.Equal(a.record, b.record) {
		t.Error("the number of received records changes what is sent")
	}
}

// All errors of Send, with every set of arguments that have one.
func TestSendErrors(t *testing.T) {
	client, server := ends(t)
	for _, c := range []api.Channel{client, server, at(client, most-1, 0), at(client, most, 0), at(server, most, most), at(server, 0, most), {}, at(client, most+1, 0), at(client, 0, -1)} {
		for _, kind := range []int{0, 1, 255, -1, 256, 256 + 22, 1 << 32, math.MinInt, math.MaxInt} {
			for _, size := range []int{0, 16384, 16385, 65519, 65520, 65536} {
				want := api.OK
				switch {
				case !standardValid(t, c):
					want = api.ErrForm
				case kind < 0 || kind > 255:
					want = api.ErrRange
				case size > 16384:
					want = api.ErrLong
				case c.Sent == most:
					want = api.ErrState
				}
				checkSend(t, c, kind, make([]byte, size), want)
			}
		}
	}
	for _, how := range changes() {
		for _, c := range []api.Channel{client, server} {
			bad := cloned(c)
			how.change(&bad)
			checkSend(t, bad, 1, nil, api.ErrForm)
			checkSend(t, bad, 256, make([]byte, 16385), api.ErrForm)
		}
	}
}

// All errors of Receive, with every set of arguments that have one.
func TestReceiveErrors(t *testing.T) {
	client, server := ends(t)
	good := checkSend(t, client, 22, []byte("some bytes"), api.OK).record
	changed := bytes.Clone(good)
	changed[len(changed)-1] ^= 1
	said := func(sealed, are int) []byte { return append(head(22, sealed), counted(1, are)...) }
	for _, c := range []struct {
		record []byte
		want   api.Errno
	}{
		{good, api.OK},
		{changed, api.ErrAuth},
		{nil, api.ErrShort},
		{good[:1], api.ErrShort},
		{good[:2], api.ErrShort},
		{good[:3], api.ErrShort},
		{good[:len(good)-1], api.ErrShort},
		{append(bytes.Clone(good), 0), api.ErrLong},
		{slices.Concat(good, good), api.ErrLong},
		{said(0, 0), api.ErrAuth},
		{said(0, 1), api.ErrLong},
		{said(1, 0), api.ErrShort},
		{said(1, 1), api.ErrAuth},
		{said(15, 15), api.ErrAuth},
		{said(16, 16), api.ErrAuth},
		{said(256, 255), api.ErrShort},
		{said(256, 256), api.ErrAuth},
		{said(255, 256), api.ErrLong},
		{said(16400, 16399), api.ErrShort},
		{said(16400, 16400), api.ErrAuth},
		{said(16400, 16401), api.ErrLong},
		{said(16401, 16400), api.ErrShort},
		{said(16401, 16401), api.ErrLong},
		{said(16401, 16402), api.ErrLong},
		{said(65535, 65534), api.ErrShort},
		{said(65535, 65535), api.ErrLong},
		{said(65535, 65536), api.ErrLong},
		{said(0, 65536), api.ErrLong},
		{said(16, 65536+16), api.ErrLong},
	} {
		checkReceive(t, server, c.record, c.want)
		checkReceive(t, at(server, most, 0), c.record, c.want)
		full := c.want
		if full == api.OK || full == api.ErrAuth {
			full = api.ErrState
		}
		checkReceive(t, at(server, 0, most), c.record, full)
		checkReceive(t, at(server, 0, most+1), c.record, api.ErrForm)
		for _, how := range changes() {
			bad := cloned(server)
			how.change(&bad)
			checkReceive(t, bad, c.record, api.ErrForm)
		}
	}
}

// More plain bytes than Send takes are refused, though they are sealed as they should be.
func TestLongRecordThatIsSealed(t *testing.T) {
	client, server := ends(t)
	for size := 16380; size < 16390; size++ {
		want := api.OK
		if size > 16384 {
			want = api.ErrLong
		}
		checkReceive(t, server, standardRecord(t, client.SendKey, 0, head(1, size+16), make([]byte, size)), want)
	}
}

// The first bytes are authenticated as one element, behind the number.
func TestOtherWaysToSeal(t *testing.T) {
	client, server := ends(t)
	b := []byte("some bytes")
	right := standardRecord(t, client.SendKey, 0, head(1, 26), b)
	checkReceive(t, server, right, api.OK)
	for _, authenticated := range [][]byte{head(2, 26), head(1, 10), head(1, 25), head(1, 29), {1}, {26, 0, 1}, nil} {
		record := standardRecord(t, client.SendKey, 0, authenticated, b)
		checkReceive(t, server, slices.Concat(head(1, 26), record[len(authenticated):]), api.ErrAuth)
	}
	checkReceive(t, server, standardRecord(t, client.ReceiveKey, 0, head(1, 26), b), api.ErrAuth)
	checkReceive(t, server, standardRecord(t, client.Secret, 0, head(1, 26), b), api.ErrAuth)
}

// Every bit of a record, whose length is then wrong or whose bytes do not open.
func TestEachChangedBit(t *testing.T) {
	client, server := ends(t)
	good := checkSend(t, client, 22, []byte("some bytes"), api.OK).record
	for k := range 8 * len(good) {
		bad := bytes.Clone(good)
		bad[k/8] ^= 1 << (k % 8)
		want := api.ErrAuth
		if size := int(bad[1])<<8 + int(bad[2]); size > 26 {
			want = api.ErrShort
		} else if size < 26 {
			want = api.ErrLong
		}
		checkReceive(t, server, bad, want)
	}
}

// Each part of a record, alone and with more behind it.
func TestLengthsOfRecords(t *testing.T) {
	client, server := ends(t)
	good := checkSend(t, client, 22, counted(1, 40), api.OK).record
	room := slices.Concat(good, good)
	for size := range len(room) {
		want := api.OK
		if size < len(good) {
			want = api.ErrShort
		} else if size > len(good) {
			want = api.ErrLong
		}
		checkReceive(t, server, room[:size], want)
	}
	// A shorter record whose length was changed with it does not open.
	for size := 3; size < len(good); size++ {
		short := bytes.Clone(good[:size])
		short[2] = byte(size - 3)
		checkReceive(t, server, short, api.ErrAuth)
	}
}

// The last record that a channel can send and receive, and then none.
func TestLastRecord(t *testing.T) {
	client, server := ends(t)
	client, server = at(client, most-2, 3), at(server, 3, most-2)
	for range 2 {
		client, server = deliver(t, client, server, 22, []byte("one of the last"))
	}
	record := standardRecord(t, client.SendKey, most, head(1, 16), nil)
	checkSend(t, client, 1, nil, api.ErrState)
	checkReceive(t, server, record, api.ErrState)
	server, client = deliver(t, server, client, 22, []byte("the other way"))
	fresh := counted(6, 20)
	deliver(t, checkRenew(t, client, fresh), checkRenew(t, server, fresh), 1, []byte("with new keys"))
}
