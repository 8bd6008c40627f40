package protect_test

import (
	"bytes"
	"math/rand"
	"slices"
	"testing"

	"sectime/aead"
	"sectime/api"
	"sectime/packet"
	"sectime/protect"
)

func checkRefused(t *testing.T, what string, b []byte, want api.Errno) {
	t.Helper()
	if p, e := protect.Open(key(), b); e != want || !samePacket(p, api.Packet{}) {
		t.Errorf("%s: Open returns %v and %v, want %v", what, p, e, want)
	}
}

// joined are all bytes behind each other.
func joined(l ...[]byte) []byte { return slices.Concat(l...) }

// number are two bytes.
func number(n int) []byte { return []byte{byte(n >> 8), byte(n)} }

// last is a field that protects, with these data.
func last(data ...[]byte) []byte {
	b := joined(data...)
	return joined([]byte{4, 4}, number(4+len(b)), b)
}

// Every byte is authenticated, or has only one value that it may have.
func TestChangedBytes(t *testing.T) {
	r := rand.New(rand.NewSource(28))
	for _, p := range packets()[:18] {
		b := protected(t, p, filled(4, 16+r.Intn(17)))
		for place := range b {
			checkOpen(t, b[:place])
			kept := b[place]
			for _, change := range []byte{1, 0x80, byte(1 + r.Intn(255))} {
				b[place] = kept ^ change
				if _, e := protect.Open(key(), b); e == api.OK {
					t.Fatalf("Open accepts %x, of which byte %d was %d", b, place, kept)
				}
				checkOpen(t, b)
			}
			b[place] = kept
		}
		checkOpen(t, append(b, 0))
		checkOpen(t, append(b, 0, 0, 0, 16, 0, 0, 0, 0, 0, 0, 0, 0, 0, 0, 0, 0))
	}
}

// Every bit of the key counts where there is something secret.
func TestOtherKeys(t *testing.T) {
	b := protected(t, api.Packet{Head: packet.Ask(1), Plain: fields(1, 20), Secret: fields(2, 30)}, filled(5, 20))
	for bit := range 256 {
		other := key()
		other[bit/8] ^= 1 << (bit % 8)
		if p, e := protect.Open(other, b); e != api.ErrAuth || !samePacket(p, api.Packet{}) {
			t.Errorf("Open with bit %d of the key changed is %v and %v", bit, p, e)
		}
	}
}

// Parts of two packets under one key do not make a third one.
func TestExchangedParts(t *testing.T) {
	one := protected(t, api.Packet{Head: packet.Ask(1), Plain: fields(1, 20), Secret: fields(2, 30)}, filled(5, 16))
	two := protected(t, api.Packet{Head: packet.Ask(2), Plain: fields(9, 20), Secret: fields(7, 30)}, filled(6, 16))
	for _, place := range []int{48, 48 + 24, 48 + 24 + 8, 48 + 24 + 24, 48 + 24 + 40} {
		checkRefused(t, "another beginning", joined(one[:place], two[place:]), api.ErrAuth)
		checkRefused(t, "another end", joined(two[:place], one[place:]), api.ErrAuth)
	}
	checkRefused(t, "a field less", joined(one[:48], one[72:]), api.ErrAuth)
	checkRefused(t, "a field twice", joined(one[:72], one[48:]), api.ErrAuth)
	checkRefused(t, "plain fields of both", joined(one[:72], two[48:72], one[72:]), api.ErrAuth)
}

func TestForms(t *testing.T) {
	head, _ := packet.Encode(packet.Ask(1))
	plain := joined([]byte{0, 1, 0, 16}, make([]byte, 12))
	nonce, short, odd := filled(6, 16), filled(6, 15), filled(6, 33)
	sealed, _ := aead.Seal(key(), [][]byte{head, nonce}, nil)
	good := last(number(16), number(16), nonce, sealed)
	for k, c := range []struct {
		b    []byte
		want api.Errno
	}{
		{nil, api.ErrNone},
		{plain, api.ErrNone},
		{good, api.OK},
		// The first field that protects is the last field.
		{joined(good, plain), api.ErrForm},
		{joined(good, good), api.ErrForm},
		{joined(plain, good, good), api.ErrForm},
		{joined(last(make([]byte, 12)), good), api.ErrForm},
		{joined(good, last(make([]byte, 12))), api.ErrForm},
		// The nonce has from 16 to 32 bytes.
		{last(number(15), number(16), short, []byte{0}, sealed), api.ErrForm},
		{last(number(33), number(16), odd, []byte{0, 0, 0}, sealed), api.ErrForm},
		{last(number(0), number(16), sealed), api.ErrForm},
		{last(number(32), number(16), filled(6, 32), sealed), api.ErrAuth},
		{last(number(17), number(16), filled(6, 17), []byte{0, 0, 0}, sealed), api.ErrAuth},
		// The numbers are those of the bytes that are there.
		{last(number(16), number(15), nonce, sealed), api.ErrForm},
		{last(number(16), number(15), nonce, sealed[:15], []byte{0}), api.ErrAuth},
		{last(number(16), number(17), nonce, sealed), api.ErrForm},
		{last(number(16), number(20), nonce, sealed), api.ErrForm},
		{last(number(16), number(12), nonce, sealed), api.ErrForm},
		{last(number(16), number(65535), nonce, sealed), api.ErrForm},
		{last(number(65535), number(16), nonce, sealed), api.ErrForm},
		{last(number(65535), number(65535), nonce, sealed), api.ErrForm},
		{last(number(32), number(0), nonce), api.ErrForm},
		{last(number(32), number(0), nonce, nonce), api.ErrAuth},
		{last(number(30), number(0), nonce, nonce[:13]), api.ErrForm},
		{last(make([]byte, 12)), api.ErrForm},
		{last(number(16), number(0), nonce[:8]), api.ErrForm},
		// Sealed bytes that are too few are refused as those that were changed.
		{last(number(16), number(0), nonce), api.ErrAuth},
		{last(number(16), number(4), nonce, sealed[:4]), api.ErrAuth},
		{last(number(16), number(1), nonce, []byte{9, 0, 0, 0}), api.ErrAuth},
		// All zeros are there, nothing else is, and there are no more of them.
		{last(number(16), number(1), nonce, []byte{9, 0, 0, 1}), api.ErrForm},
		{last(number(16), number(1), nonce, []byte{9, 1, 0, 0}), api.ErrForm},
		{last(number(17), number(16), filled(6, 17), []byte{0, 0, 1}, sealed), api.ErrForm},
		{last(number(17), number(16), filled(6, 17), []byte{1, 0, 0}, sealed), api.ErrForm},
		{last(number(17), number(15), filled(6, 17), sealed[:15]), api.ErrForm},
		{last(number(16), number(16), nonce, []byte{0, 0, 0, 0}, sealed), api.ErrForm},
		{last(number(16), number(16), nonce, sealed, []byte{0, 0, 0, 0}), api.ErrForm},
		{last(number(16), number(16), nonce, sealed, []byte{0, 0, 0, 1}), api.ErrForm},
		{last(number(16), number(16), nonce, sealed, make([]byte, 16)), api.ErrForm},
		{last(number(16), number(0), nonce, make([]byte, 4)), api.ErrForm},
	} {
		b := joined(head, c.b)
		p, e := protect.Open(key(), b)
		if e != c.want || e != api.OK && !samePacket(p, api.Packet{}) {
			t.Errorf("case %d: Open returns %v and %v, want %v", k, p, e, c.want)
		}
		checkOpen(t, b)
	}
}

// All numbers of both kinds that may stand in the data, with bytes behind them that fit only some.
func TestAllNumbers(t *testing.T) {
	head, _ := packet.Encode(packet.Ask(1))
	for _, size := range []int{8, 12, 16, 20, 24, 28, 32, 36, 40, 44, 48, 52, 56, 100} {
		for _, rest := range [][]byte{make([]byte, size), filled(7, size)} {
			for nonce := range 70 {
				for sealed := range 110 {
					checkOpen(t, joined(head, last(number(nonce), number(sealed), rest)))
				}
			}
		}
	}
}

// What was sealed may be no fields, or too many: the errors of layer 17, behind all others.
func TestSealedBytes(t *testing.T) {
	head, _ := packet.Encode(packet.Ask(1))
	nonce := filled(8, 16)
	small := joined([]byte{0, 1, 0, 16}, make([]byte, 12))
	for k, c := range []struct {
		hidden []byte
		want   api.Errno
	}{
		{nil, api.OK},
		{small, api.OK},
		{bytes.Repeat(small, 24), api.OK},
		{bytes.Repeat(small, 25), api.ErrLimit},
		{[]byte{1, 2, 3}, api.ErrShort},
		{[]byte{1, 2, 0, 12}, api.ErrForm},
		{[]byte{1, 2, 3, 4}, api.ErrShort},
		{[]byte{0, 1, 0, 17, 0}, api.ErrForm},
		{[]byte{0, 1, 0, 16, 0}, api.ErrShort},
		{joined(small, []byte{0}), api.ErrShort},
		{joined(small, small[:12]), api.ErrShort},
		{joined([]byte{4, 4, 0, 16}, make([]byte, 12)), api.OK},
	} {
		sealed, _ := aead.Seal(key(), [][]byte{head, nonce}, c.hidden)
		b := joined(head, standardGuard(nonce, sealed))
		p, e := protect.Open(key(), b)
		if e != c.want || e != api.OK && !samePacket(p, api.Packet{}) {
			t.Errorf("case %d: Open returns %v and %v, want %v", k, p, e, c.want)
		}
		checkOpen(t, b)
		if len(sealed)%4 != 0 {
			b[len(b)-1] = 1
			checkRefused(t, "no zeros behind no fields", b, api.ErrForm)
			b[len(b)-1] = 0
		}
		b[0] ^= 1
		checkRefused(t, "changed bytes and no fields", b, api.ErrAuth)
	}
}

func TestOpenErrors(t *testing.T) {
	head, _ := packet.Encode(packet.Ask(1))
	plain := joined([]byte{0, 1, 0, 16}, make([]byte, 12))
	guard := last(make([]byte, 12))
	for k, c := range []struct {
		key, b []byte
		want   api.Errno
	}{
		{nil, nil, api.ErrKey},
		{key()[:16], head[:40], api.ErrKey},
		{filled(1, 33), make([]byte, 2000), api.ErrKey},
		{key(), nil, api.ErrShort},
		{key(), make([]byte, 2000), api.ErrLong},
		{key(), make([]byte, 100), api.ErrForm},
		// What is wrong with any field comes before what is wrong with the one that protects, or that there is none.
		{key(), joined(head, guard, []byte{0}), api.ErrShort},
		{key(), joined(head, plain, []byte{0, 0, 0, 12}), api.ErrForm},
		{key(), joined(head, bytes.Repeat(plain, 24), guard), api.ErrLimit},
		{key(), joined(head, bytes.Repeat(plain, 23), guard), api.ErrForm},
		{key(), joined(head, bytes.Repeat(plain, 24)), api.ErrNone},
		{key(), joined(head, guard, plain), api.ErrForm},
	} {
		if p, e := protect.Open(c.key, c.b); e != c.want || !samePacket(p, api.Packet{}) {
			t.Errorf("case %d: Open returns %v and %v, want %v", k, p, e, c.want)
		}
	}
}
