package protect_test

import (
	"bytes"
	"encoding/binary"
	"math/rand"
	"slices"
	"testing"

	"sectime/aead"
	"sectime/api"
	"sectime/extension"
	"sectime/packet"
	"sectime/protect"
)

// The definitions of the chapter, in terms of the layers that it names, and the packets that are held against them.

// filled are so many bytes, none of which is 0, and which are others for another seed.
func filled(seed, size int) []byte {
	b := make([]byte, size)
	for k := range b {
		b[k] = byte(1 + (seed*37+k*11)%255)
	}
	return b
}

func key() []byte { return filled(1, 32) }

func field(kind, size int) api.Field {
	return api.Field{Type: kind, Data: filled(kind+size, size)}
}

// fields have one type after the other from kind on, and these numbers of bytes of data.
func fields(kind int, sizes ...int) []api.Field {
	var l []api.Field
	for k, size := range sizes {
		l = append(l, field(kind+k, size))
	}
	return l
}

func standardBare(p api.Packet) ([]byte, api.Errno) {
	b, e := packet.Encode(p.Head)
	if e != api.OK {
		return nil, e
	}
	l, e := extension.Encode(p.Plain)
	if e != api.OK {
		return nil, e
	}
	return append(b, l...), api.OK
}

// padded has zeros behind it up to a multiple of 4 bytes.
func padded(b []byte) []byte {
	b = bytes.Clone(b)
	for len(b)%4 != 0 {
		b = append(b, 0)
	}
	return b
}

// standardGuard is the field that protects, which is never so short that it would need more zeros.
func standardGuard(nonce, sealed []byte) []byte {
	data := binary.BigEndian.AppendUint16(nil, uint16(len(nonce)))
	data = binary.BigEndian.AppendUint16(data, uint16(len(sealed)))
	data = append(data, padded(nonce)...)
	data = append(data, padded(sealed)...)
	b := binary.BigEndian.AppendUint16([]byte{4, 4}, uint16(4+len(data)))
	return append(b, data...)
}

// standardProtect has only the errors of the lengths, and is for other arguments that have none.
func standardProtect(key []byte, p api.Packet, nonce []byte) ([]byte, api.Errno) {
	b, _ := standardBare(p)
	secret, _ := extension.Encode(p.Secret)
	sealed, _ := aead.Seal(key, [][]byte{b, nonce}, secret)
	b = append(b, standardGuard(nonce, sealed)...)
	if len(b) > 1280 {
		return nil, api.ErrLong
	}
	return b, api.OK
}

func standardRead(b []byte) (api.Packet, api.Errno) {
	h, rest, e := packet.Decode(b)
	if e != api.OK {
		return api.Packet{}, e
	}
	l, e := extension.Decode(rest)
	if e != api.OK {
		return api.Packet{}, e
	}
	return api.Packet{Head: h, Plain: l}, api.OK
}

// standardParts finds the parts of data by their places.
func standardParts(data []byte) (nonce, sealed []byte, ok bool) {
	n, m := int(data[0])*256+int(data[1]), int(data[2])*256+int(data[3])
	from := 4 + (n+3)/4*4
	to := from + (m+3)/4*4
	if n < 16 || n > 32 || to != len(data) {
		return nil, nil, false
	}
	for _, zero := range slices.Concat(data[4+n:from], data[from+m:to]) {
		if zero != 0 {
			return nil, nil, false
		}
	}
	return data[4 : 4+n], data[from : from+m], true
}

func standardOpen(key, b []byte) (api.Packet, api.Errno) {
	p, e := standardRead(b)
	if e != api.OK {
		return api.Packet{}, e
	}
	for k, f := range p.Plain {
		if f.Type != api.ExtAuth {
			continue
		}
		nonce, sealed, ok := standardParts(f.Data)
		if k != len(p.Plain)-1 || !ok {
			return api.Packet{}, api.ErrForm
		}
		hidden, e := aead.Open(key, [][]byte{b[:len(b)-4-len(f.Data)], nonce}, sealed)
		if e != api.OK {
			return api.Packet{}, api.ErrAuth
		}
		secret, e := extension.Decode(hidden)
		if e != api.OK {
			return api.Packet{}, e
		}
		return api.Packet{Head: p.Head, Plain: p.Plain[:k], Secret: secret, Guarded: true}, api.OK
	}
	return api.Packet{}, api.ErrNone
}

func samePacket(a, b api.Packet) bool {
	return a.Head == b.Head && extension.Same(a.Plain, b.Plain) && extension.Same(a.Secret, b.Secret) && a.Guarded == b.Guarded
}

// withZeros are the fields with the zeros that their bytes have behind their data.
func withZeros(l []api.Field) []api.Field {
	var all []api.Field
	for _, f := range l {
		size, _ := extension.Size(f)
		all = append(all, api.Field{Type: f.Type, Data: append(bytes.Clone(f.Data), make([]byte, size-4-len(f.Data))...)})
	}
	return all
}

// packets fit, whatever their nonce is: without and with fields of both kinds, up to the greatest numbers of them, and random ones.
func packets() []api.Packet {
	full := api.Header{Leap: 3, Version: 3, Mode: 7, Stratum: 255, Poll: -128, Precision: 127, RootDelay: 1, RootDisp: 2, RefID: 3, Ref: 4, Origin: 5, Receive: 6, Transmit: 1 << 63}
	l := []api.Packet{
		{Head: packet.Ask(0)},
		{Head: full, Plain: fields(0, 0)},
		{Head: full, Secret: fields(65535, 0)},
		{Head: packet.Ask(1), Plain: []api.Field{field(api.ExtUnique, 32), field(api.ExtCookie, 104)}, Secret: fields(api.ExtCookie, 104)},
		{Head: full, Plain: make([]api.Field, 23)},
		{Head: full, Secret: make([]api.Field, 24)},
		{Head: full, Plain: make([]api.Field, 23), Secret: make([]api.Field, 24)},
		{Head: full, Secret: fields(api.ExtAuth, 40, 3)},
		{Head: full, Plain: fields(5, 5), Secret: fields(6, 6), Guarded: true},
	}
	r := rand.New(rand.NewSource(26))
	for k := range 150 {
		h := packet.Ask(r.Uint64())
		h.Mode, h.Stratum, h.Ref = k%8, r.Intn(256), r.Uint64()
		l = append(l, api.Packet{Head: h, Plain: randomFields(r), Secret: randomFields(r)})
	}
	return l
}

// randomFields are at most ten, none of them a guard, with zeros among their data.
func randomFields(r *rand.Rand) []api.Field {
	l := make([]api.Field, r.Intn(11))
	for k := range l {
		l[k] = api.Field{Type: api.ExtAuth + 1 + r.Intn(40000), Data: make([]byte, r.Intn(50))}
		r.Read(l[k].Data)
		clear(l[k].Data[r.Intn(1+len(l[k].Data)):])
	}
	return l
}

// protected are the bytes of a packet that has no error.
func protected(t *testing.T, p api.Packet, nonce []byte) []byte {
	t.Helper()
	b, e := protect.Protect(key(), p, nonce)
	if e != api.OK {
		t.Fatalf("Protect of %v with %d bytes of nonce returns %v", p, len(nonce), e)
	}
	return b
}

func checkRead(t *testing.T, b []byte) {
	t.Helper()
	want, wanted := standardRead(b)
	if p, e := protect.Read(b); e != wanted || !samePacket(p, want) {
		t.Fatalf("Read of %x is %v and %v, want %v and %v", b, p, e, want, wanted)
	}
}

func checkOpen(t *testing.T, b []byte) {
	t.Helper()
	want, wanted := standardOpen(key(), b)
	if p, e := protect.Open(key(), b); e != wanted || !samePacket(p, want) {
		t.Fatalf("Open of %x is %v and %v, want %v and %v", b, p, e, want, wanted)
	}
}
