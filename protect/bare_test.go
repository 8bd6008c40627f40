package protect_test

import (
	"bytes"
	"encoding/hex"
	"math/rand"
	"testing"

	"sectime/api"
	"sectime/packet"
	"sectime/protect"
)

func unhex(t *testing.T, text string) []byte {
	t.Helper()
	b, err := hex.DecodeString(text)
	if err != nil {
		t.Fatal(err)
	}
	return b
}

func TestKnownBare(t *testing.T) {
	head := "23000600" + "000000000000000000000000" + "000000000000000000000000000000000000000000000000" + "1122334455667788"
	for _, c := range []struct {
		plain []api.Field
		want  string
	}{
		{nil, head},
		{[]api.Field{{Type: 1, Data: []byte{2}}}, head + "00010010" + "020000000000000000000000"},
		// A field that protects is one like all others.
		{[]api.Field{{Type: 0x0404}, {Type: 0xffff, Data: []byte("thirteen byte")}}, head + "04040010" + "000000000000000000000000" + "ffff0014" + hex.EncodeToString([]byte("thirteen byte")) + "000000"},
	} {
		p := api.Packet{Head: packet.Ask(0x1122334455667788), Plain: c.plain}
		want := unhex(t, c.want)
		if b, e := protect.Bare(p); e != api.OK || !bytes.Equal(b, want) {
			t.Errorf("Bare of %v is %x and %v, want %s", p, b, e, c.want)
		}
		p.Plain = withZeros(c.plain)
		if back, e := protect.Read(want); e != api.OK || !samePacket(back, p) {
			t.Errorf("Read of %s is %v and %v, want %v", c.want, back, e, p)
		}
	}
}

// Read of Bare is the packet, with zeros behind its data, and Bare of that the bytes again.
func TestBareAndRead(t *testing.T) {
	for _, p := range packets() {
		p.Plain = append(p.Plain, p.Secret...)
		p.Secret, p.Guarded = nil, false
		if len(p.Plain) > api.MaxExts {
			p.Plain = p.Plain[:api.MaxExts]
		}
		want, _ := standardBare(p)
		b, e := protect.Bare(p)
		if e != api.OK || !bytes.Equal(b, want) {
			t.Fatalf("Bare of %v is %x and %v, want %x", p, b, e, want)
		}
		p.Plain = withZeros(p.Plain)
		back, e := protect.Read(b)
		if e != api.OK || !samePacket(back, p) {
			t.Fatalf("Read of %x is %v and %v, want %v", b, back, e, p)
		}
		if again, e := protect.Bare(back); e != api.OK || !bytes.Equal(again, b) {
			t.Fatalf("Bare of Read of %x is %x and %v", b, again, e)
		}
	}
}

func TestBareErrors(t *testing.T) {
	good, bad := packet.Ask(1), api.Header{Version: 5}
	low, long, half, more := api.Field{Type: -1}, field(1, 1229), field(1, 612), []api.Field{{}}
	for k, c := range []struct {
		p    api.Packet
		want api.Errno
	}{
		{api.Packet{}, api.ErrRange},
		{api.Packet{Head: bad, Plain: []api.Field{long}, Secret: more, Guarded: true}, api.ErrRange},
		{api.Packet{Head: good, Plain: []api.Field{low, long}, Secret: more}, api.ErrRange},
		{api.Packet{Head: good, Plain: []api.Field{long, low}, Guarded: true}, api.ErrLong},
		{api.Packet{Head: good, Plain: make([]api.Field, 25), Secret: more, Guarded: true}, api.ErrLimit},
		{api.Packet{Head: good, Plain: make([]api.Field, 24)}, api.OK},
		{api.Packet{Head: good, Plain: []api.Field{half, half}}, api.OK},
		{api.Packet{Head: good, Plain: []api.Field{half, half, {}}, Secret: more}, api.ErrLong},
		{api.Packet{Head: good, Secret: more}, api.ErrForm},
		{api.Packet{Head: good, Guarded: true}, api.ErrForm},
		{api.Packet{Head: good, Secret: more, Guarded: true}, api.ErrForm},
		// What is secret has no bytes here, so its own errors do not show.
		{api.Packet{Head: good, Secret: []api.Field{low}}, api.ErrForm},
		{api.Packet{Head: good, Secret: []api.Field{}}, api.OK},
	} {
		b, e := protect.Bare(c.p)
		if e != c.want || e != api.OK && len(b) != 0 {
			t.Errorf("Bare, case %d: %x and %v, want %v", k, b, e, c.want)
		}
	}
}

func TestReadErrors(t *testing.T) {
	head, _ := packet.Encode(packet.Ask(1))
	old := bytes.Clone(head)
	old[0] = 2 << 3
	for k, c := range []struct {
		b    []byte
		want api.Errno
	}{
		{nil, api.ErrShort},
		{head[:47], api.ErrShort},
		{old[:47], api.ErrShort},
		{make([]byte, 1281), api.ErrLong},
		{append(bytes.Clone(head), make([]byte, 1233)...), api.ErrLong},
		{old, api.ErrForm},
		{append(bytes.Clone(old), 1), api.ErrForm},
		{head, api.OK},
		{append(bytes.Clone(head), 1), api.ErrShort},
		{append(bytes.Clone(head), 0, 1, 0, 12), api.ErrForm},
		{append(bytes.Clone(head), 0, 1, 0, 16), api.ErrShort},
		{append(bytes.Clone(head), bytes.Repeat([]byte{0, 0, 0, 16, 0, 0, 0, 0, 0, 0, 0, 0, 0, 0, 0, 0}, 24)...), api.OK},
		{append(bytes.Clone(head), bytes.Repeat([]byte{0, 0, 0, 16, 0, 0, 0, 0, 0, 0, 0, 0, 0, 0, 0, 0}, 25)...), api.ErrLimit},
	} {
		p, e := protect.Read(c.b)
		if e != c.want || e != api.OK && !samePacket(p, api.Packet{}) {
			t.Errorf("Read, case %d: %v and %v, want %v", k, p, e, c.want)
		}
		checkRead(t, c.b)
		// Open has the errors of Read, and else the one that there is no field that protects.
		if c.want == api.OK {
			c.want = api.ErrNone
		}
		p, e = protect.Open(key(), c.b)
		if e != c.want || !samePacket(p, api.Packet{}) {
			t.Errorf("Open, case %d: %v and %v, want %v", k, p, e, c.want)
		}
	}
}

// Every beginning of the bytes of packets, and every byte of them with other values.
func TestReadOfChangedBytes(t *testing.T) {
	r := rand.New(rand.NewSource(27))
	for _, p := range packets()[:40] {
		b := protected(t, p, filled(3, 16+r.Intn(17)))
		for size := range b {
			checkRead(t, b[:size])
			kept := b[size]
			for _, value := range []byte{0, 16, 255, byte(r.Intn(256))} {
				b[size] = value
				checkRead(t, b)
			}
			b[size] = kept
		}
		checkRead(t, b)
	}
}
