package extension_test

import (
	"bytes"
	"encoding/binary"
	"math/rand"
	"testing"

	"sectime/api"
	"sectime/extension"
)

// The definitions of the chapter, with the library's numbers in bytes, and the fields that are held against them.

const room = 1280 - 48 // bytes of all fields of a packet

// standardBytes are the bytes of a field whose type has two bytes, however many they are.
func standardBytes(f api.Field) []byte {
	b := binary.BigEndian.AppendUint16(nil, uint16(f.Type))
	b = append(b, 0, 0)
	b = append(b, f.Data...)
	for len(b) < 16 || len(b)%4 != 0 {
		b = append(b, 0)
	}
	binary.BigEndian.PutUint16(b[2:], uint16(len(b)))
	return b
}

func standardSize(f api.Field) (int, api.Errno) {
	if f.Type < 0 || f.Type > 65535 {
		return 0, api.ErrRange
	}
	size := len(standardBytes(f))
	if size > room {
		return 0, api.ErrLong
	}
	return size, api.OK
}

func standardEncode(l []api.Field) ([]byte, api.Errno) {
	for _, f := range l {
		if _, e := standardSize(f); e != api.OK {
			return nil, e
		}
	}
	if len(l) > 24 {
		return nil, api.ErrLimit
	}
	var b []byte
	for _, f := range l {
		b = append(b, standardBytes(f)...)
	}
	if len(b) > room {
		return nil, api.ErrLong
	}
	return b, api.OK
}

// standardDecode are the fields in b, and their places: the first one, and those of what is behind it.
func standardDecode(b []byte) ([]api.Field, []int, api.Errno) {
	if len(b) > room {
		return nil, nil, api.ErrLong
	}
	return standardRest(b, 0, 24)
}

// standardRest are the fields in b from place on, of which there may be so many.
func standardRest(b []byte, place, left int) ([]api.Field, []int, api.Errno) {
	rest := b[place:]
	if len(rest) == 0 {
		return nil, nil, api.OK
	}
	if len(rest) < 4 {
		return nil, nil, api.ErrShort
	}
	size := int(rest[2])*256 + int(rest[3])
	switch {
	case size%4 != 0 || size < 16:
		return nil, nil, api.ErrForm
	case len(rest) < size:
		return nil, nil, api.ErrShort
	case left == 0:
		return nil, nil, api.ErrLimit
	}
	l, places, e := standardRest(b, place+size, left-1)
	if e != api.OK {
		return nil, nil, e
	}
	f := api.Field{Type: int(rest[0])*256 + int(rest[1]), Data: bytes.Clone(rest[4:size])}
	return append([]api.Field{f}, l...), append([]int{place}, places...), api.OK
}

func standardSame(a, b []api.Field) bool {
	same := len(a) == len(b)
	for k := 0; same && k < len(a); k++ {
		same = a[k].Type == b[k].Type && string(a[k].Data) == string(b[k].Data)
	}
	return same
}

// filled is a field of this type with so many bytes of data, none of which is 0.
func filled(kind, size int) api.Field {
	data := make([]byte, size)
	for k := range data {
		data[k] = byte(1 + (k+kind+size)%255)
	}
	return api.Field{Type: kind, Data: data}
}

// lists are fields that have bytes.
func lists() [][]api.Field {
	l := [][]api.Field{nil, {}, {{}}, {{Type: 65535}}, {{}, {}}, {filled(1, 1228)}, {filled(2, 612), filled(3, 612)}, make([]api.Field, 24)}
	for size := range 70 {
		l = append(l, []api.Field{filled(0x0104, size)}, []api.Field{filled(7, size), filled(65535, 69-size), filled(7, 3)})
	}
	r := rand.New(rand.NewSource(22))
	for range 400 {
		l = append(l, randomList(r))
	}
	return l
}

// randomList has a few fields that fit into a packet, with zeros among their data.
func randomList(r *rand.Rand) []api.Field {
	l := make([]api.Field, r.Intn(25))
	for k := range l {
		l[k] = api.Field{Type: r.Intn(65536), Data: make([]byte, r.Intn(45))}
		r.Read(l[k].Data)
		if r.Intn(2) == 0 {
			clear(l[k].Data[len(l[k].Data)/2:])
		}
	}
	return l
}

func checkSize(t *testing.T, f api.Field) {
	t.Helper()
	want, wanted := standardSize(f)
	if got, e := extension.Size(f); got != want || e != wanted {
		t.Fatalf("Size of type %d with %d bytes is %d and %v, want %d and %v", f.Type, len(f.Data), got, e, want, wanted)
	}
}

func checkEncode(t *testing.T, l []api.Field) {
	t.Helper()
	want, wanted := standardEncode(l)
	if got, e := extension.Encode(l); e != wanted || !bytes.Equal(got, want) {
		t.Fatalf("Encode of %d fields %v is %x and %v, want %x and %v", len(l), l, got, e, want, wanted)
	}
}

// checkDecode holds Decode and Places of b against the chapter.
func checkDecode(t *testing.T, b []byte) {
	t.Helper()
	want, starts, wanted := standardDecode(b)
	if got, e := extension.Decode(b); e != wanted || !standardSame(got, want) {
		t.Fatalf("Decode of %x is %v and %v, want %v and %v", b, got, e, want, wanted)
	}
	got, e := extension.Places(b)
	if e != wanted || len(got) != len(starts) {
		t.Fatalf("Places of %x is %v and %v, want %v and %v", b, got, e, starts, wanted)
	}
	for k := range got {
		if got[k] != starts[k] {
			t.Fatalf("Places of %x is %v, want %v", b, got, starts)
		}
	}
}
