package protect_test

import (
	"bytes"
	"testing"

	"sectime/api"
	"sectime/packet"
	"sectime/protect"
)

// counted are so many bytes from first on.
func counted(first, size int) []byte {
	b := make([]byte, size)
	for k := range b {
		b[k] = byte(first + k)
	}
	return b
}

// The bytes were computed by another program, with the AES-SIV of OpenSSL.
func TestKnownProtect(t *testing.T) {
	head := "23000600" + "000000000000000000000000" + "000000000000000000000000000000000000000000000000" + "1122334455667788"
	unique := "010400240102030405060708090a0b0c0d0e0f101112131415161718191a1b1c1d1e1f20"
	for _, c := range []struct {
		plain, secret []api.Field
		nonce         int
		want          string
	}{
		{nil, nil, 16, "0404002800100010a0a1a2a3a4a5a6a7a8a9aaabacadaeaf12b95ebb48d00f0f382dd79365920b53"},
		{[]api.Field{{Type: 0x0104, Data: counted(1, 32)}}, nil, 17, unique + "0404002c00110010a0a1a2a3a4a5a6a7a8a9aaabacadaeafb000000055f21ca42359c1feccfb0dd6b1c5954e"},
		{nil, []api.Field{{Type: 7}}, 18, "0404003c00120020a0a1a2a3a4a5a6a7a8a9aaabacadaeafb0b1000022f19764404b1ab2d5c5f0dc10a85361c45ed0a32307351f1950b33e3eca849d"},
		{
			[]api.Field{{Type: 0x0104, Data: counted(1, 32)}, {Type: 0x0204, Data: []byte("cookie")}}, []api.Field{{Type: 0x0204, Data: []byte("another cookie")}, {Type: 0xffff, Data: []byte("x")}}, 19,
			unique + "02040010636f6f6b6965000000000000" + "0404005000130034a0a1a2a3a4a5a6a7a8a9aaabacadaeafb0b1b200f4a654bd8272f75c002c0e91a8126095f2e06e19227871fd64d5add51d2867f8aa22fc928f873f41262ee2a399ad84cfd78b1e44",
		},
		{[]api.Field{{Type: 9, Data: []byte("abc")}}, []api.Field{{Type: 8, Data: counted(200, 17)}}, 32, "00090010616263000000000000000000" + "0404005000200028a0a1a2a3a4a5a6a7a8a9aaabacadaeafb0b1b2b3b4b5b6b7b8b9babbbcbdbebfe57c3ad81b13bc8b9a20675fde612fc363aa80e8fb274b9714ea28884fb4a349f6e55bd389156735"},
	} {
		p := api.Packet{Head: packet.Ask(0x1122334455667788), Plain: c.plain, Secret: c.secret}
		b, e := protect.Protect(counted(0x40, 32), p, counted(0xa0, c.nonce))
		if want := unhex(t, head+c.want); e != api.OK || !bytes.Equal(b, want) {
			t.Errorf("Protect of %v is %x and %v, want %x", p, b, e, want)
		}
		p.Plain, p.Secret, p.Guarded = withZeros(c.plain), withZeros(c.secret), true
		if back, e := protect.Open(counted(0x40, 32), unhex(t, head+c.want)); e != api.OK || !samePacket(back, p) {
			t.Errorf("Open of %s is %v and %v, want %v", c.want, back, e, p)
		}
	}
}

// All nonces, whatever Guarded is; and Open finds the packet, with zeros behind its data.
func TestProtectAndOpen(t *testing.T) {
	for k, p := range packets() {
		for size := 16; size <= 32; size++ {
			nonce := filled(k, size)
			p.Guarded = (k+size)%2 == 0
			want, wanted := standardProtect(key(), p, nonce)
			b, e := protect.Protect(key(), p, nonce)
			if e != api.OK || wanted != api.OK || !bytes.Equal(b, want) {
				t.Fatalf("Protect of %v is %x and %v, want %x and %v", p, b, e, want, wanted)
			}
			checkOpen(t, b)
			back, e := protect.Open(key(), b)
			if e != api.OK || !samePacket(back, api.Packet{Head: p.Head, Plain: withZeros(p.Plain), Secret: withZeros(p.Secret), Guarded: true}) {
				t.Fatalf("Open of Protect of %v is %v and %v", p, back, e)
			}
			if again, e := protect.Protect(key(), back, nonce); e != api.OK || !bytes.Equal(again, b) {
				t.Fatalf("Protect of Open of %x is %x and %v", b, again, e)
			}
		}
	}
}

// Packets of all sizes around the greatest one, by what is plain and by what is secret.
func TestLongPackets(t *testing.T) {
	for size := 1100; size < 1232; size++ {
		for _, p := range []api.Packet{
			{Head: packet.Ask(1), Plain: []api.Field{field(1, size)}},
			{Head: packet.Ask(1), Secret: []api.Field{field(1, size)}},
			{Head: packet.Ask(1), Plain: []api.Field{field(1, size-500)}, Secret: []api.Field{field(1, 470)}},
		} {
			if size > 1228 && len(p.Plain)+len(p.Secret) == 1 {
				continue // then it is the field itself that is too long
			}
			for _, nonce := range [][]byte{filled(1, 16), filled(1, 17), filled(1, 20), filled(1, 32)} {
				want, wanted := standardProtect(key(), p, nonce)
				if b, e := protect.Protect(key(), p, nonce); e != wanted || !bytes.Equal(b, want) {
					t.Fatalf("Protect with %d bytes of data returns %d bytes and %v, want %d and %v", size, len(b), e, len(want), wanted)
				}
			}
		}
	}
}

func TestKnownLimits(t *testing.T) {
	for _, c := range []struct {
		plain, secret, nonce int
		want                 api.Errno
	}{
		{1188, 0, 16, api.OK}, {1189, 0, 16, api.ErrLong}, {1188, 0, 17, api.ErrLong}, {1184, 0, 17, api.OK}, {1184, 0, 20, api.OK}, {1184, 0, 21, api.ErrLong}, {1172, 0, 32, api.OK}, {1173, 0, 32, api.ErrLong},
		{0, 1188, 16, api.OK}, {0, 1189, 16, api.ErrLong}, {0, 1184, 17, api.OK}, {0, 1172, 32, api.OK}, {0, 1173, 32, api.ErrLong},
		{0, 1228, 16, api.ErrLong}, {1228, 0, 16, api.ErrLong}, {1228, 1228, 32, api.ErrLong}, {584, 600, 16, api.OK}, {585, 600, 16, api.ErrLong}, {584, 601, 16, api.ErrLong},
	} {
		p := api.Packet{Head: packet.Ask(1)}
		if c.plain > 0 {
			p.Plain = []api.Field{field(1, c.plain)}
		}
		if c.secret > 0 {
			p.Secret = []api.Field{field(1, c.secret)}
		}
		b, e := protect.Protect(key(), p, filled(2, c.nonce))
		if e != c.want || e != api.OK && len(b) != 0 || e == api.OK && len(b) != 1280 {
			t.Errorf("Protect of %d and %d bytes with a nonce of %d returns %d bytes and %v, want %v", c.plain, c.secret, c.nonce, len(b), e, c.want)
		}
	}
}

func TestLengthsOfKeys(t *testing.T) {
	p := api.Packet{Head: packet.Ask(1)}
	b := protected(t, p, filled(2, 16))
	for size := range 70 {
		if size == 32 {
			continue
		}
		if got, e := protect.Protect(filled(1, size), p, filled(2, 16)); e != api.ErrKey || len(got) != 0 {
			t.Errorf("Protect with %d bytes of key returns %x and %v", size, got, e)
		}
		if got, e := protect.Open(filled(1, size), b); e != api.ErrKey || !samePacket(got, api.Packet{}) {
			t.Errorf("Open with %d bytes of key returns %v and %v", size, got, e)
		}
	}
}

func TestLengthsOfNonces(t *testing.T) {
	for size := range 70 {
		want := api.ErrRange
		if size >= 16 && size <= 32 {
			want = api.OK
		}
		if b, e := protect.Protect(key(), api.Packet{Head: packet.Ask(1)}, filled(2, size)); e != want || e != api.OK && len(b) != 0 {
			t.Errorf("Protect with %d bytes of nonce returns %x and %v, want %v", size, b, e, want)
		}
	}
}

// Each error with all later ones, and then without it.
func TestProtectErrors(t *testing.T) {
	nonce, good, bad := filled(2, 16), packet.Ask(1), api.Header{Version: 4, Mode: 8}
	low, long, half, guard := api.Field{Type: -1}, field(1, 1229), field(1, 612), field(api.ExtAuth, 2)
	many := func(n int, more ...api.Field) []api.Field { return append(make([]api.Field, n), more...) }
	for k, c := range []struct {
		key   []byte
		p     api.Packet
		nonce []byte
		want  api.Errno
	}{
		{nil, api.Packet{Head: bad}, nil, api.ErrKey},
		{filled(1, 31), api.Packet{Head: good, Plain: []api.Field{long}}, nonce[:15], api.ErrKey},
		{filled(1, 64), api.Packet{Head: good, Plain: many(24)}, nonce, api.ErrKey},
		{key(), api.Packet{Head: good, Plain: []api.Field{long}}, nonce[:15], api.ErrRange},
		{key(), api.Packet{Head: good, Plain: many(24, guard)}, filled(2, 33), api.ErrRange},
		{key(), api.Packet{Head: bad, Plain: []api.Field{long}, Secret: many(25)}, nonce, api.ErrRange},
		{key(), api.Packet{Head: good, Plain: []api.Field{long, low, guard}, Secret: []api.Field{low}}, nonce, api.ErrLong},
		{key(), api.Packet{Head: good, Plain: []api.Field{guard, low}, Secret: many(25)}, nonce, api.ErrRange},
		{key(), api.Packet{Head: good, Plain: many(24, guard), Secret: []api.Field{low}}, nonce, api.ErrLimit},
		{key(), api.Packet{Head: good, Plain: []api.Field{half, half, guard}, Secret: []api.Field{low}}, nonce, api.ErrLong},
		{key(), api.Packet{Head: good, Plain: many(23, guard), Secret: []api.Field{low, long}}, nonce, api.ErrRange},
		{key(), api.Packet{Head: good, Plain: many(23, guard), Secret: []api.Field{long, low}}, nonce, api.ErrLong},
		{key(), api.Packet{Head: good, Plain: many(23, guard), Secret: many(25)}, nonce, api.ErrLimit},
		{key(), api.Packet{Head: good, Plain: []api.Field{guard}, Secret: []api.Field{half, half, {}}}, nonce, api.ErrLong},
		{key(), api.Packet{Head: good, Plain: []api.Field{guard}}, nonce, api.ErrForm},
		{key(), api.Packet{Head: good, Plain: append([]api.Field{guard}, many(23)...), Secret: []api.Field{half, half}}, nonce, api.ErrForm},
		{key(), api.Packet{Head: good, Plain: many(23, guard), Secret: []api.Field{half, half}}, nonce, api.ErrForm},
		{key(), api.Packet{Head: good, Plain: many(24), Secret: []api.Field{half, half}}, nonce, api.ErrLimit},
		{key(), api.Packet{Head: good, Plain: many(24)}, nonce, api.ErrLimit},
		{key(), api.Packet{Head: good, Plain: many(23), Secret: []api.Field{half, half}}, nonce, api.ErrLong},
		{key(), api.Packet{Head: good, Plain: many(23), Secret: many(24)}, nonce, api.OK},
		{key(), api.Packet{Head: good, Plain: many(23), Secret: []api.Field{guard}, Guarded: true}, nonce, api.OK},
	} {
		b, e := protect.Protect(c.key, c.p, c.nonce)
		if e != c.want || e != api.OK && len(b) != 0 {
			t.Errorf("Protect, case %d: %d bytes and %v, want %v", k, len(b), e, c.want)
		}
	}
}
