package extension_test

import (
	"bytes"
	"encoding/hex"
	"math"
	"math/rand"
	"slices"
	"testing"

	"sectime/api"
	"sectime/extension"
)

func TestKnownSizes(t *testing.T) {
	for _, c := range []struct{ size, want int }{{0, 16}, {1, 16}, {11, 16}, {12, 16}, {13, 20}, {16, 20}, {17, 24}, {20, 24}, {100, 104}, {1224, 1228}, {1225, 1232}, {1228, 1232}} {
		if got, e := extension.Size(filled(4, c.size)); got != c.want || e != api.OK {
			t.Errorf("Size with %d bytes is %d and %v, want %d", c.size, got, e, c.want)
		}
	}
}

func TestSizes(t *testing.T) {
	data := make([]byte, 70000)
	for _, kind := range []int{0, 1, 255, 256, 65534, 65535, -1, 65536, 1 << 32, math.MinInt, math.MaxInt} {
		for size := range 1300 {
			checkSize(t, api.Field{Type: kind, Data: data[:size]})
		}
		for _, size := range []int{65531, 65532, 65535, 65536, 65540, 70000} {
			if _, e := extension.Size(api.Field{Type: kind, Data: data[:size]}); e == api.OK {
				t.Errorf("Size with %d bytes has no error", size)
			}
		}
	}
	for _, c := range []struct {
		f    api.Field
		want api.Errno
	}{{api.Field{Data: data[:1229]}, api.ErrLong}, {api.Field{Type: -1, Data: data[:1229]}, api.ErrRange}, {api.Field{Type: 65536, Data: data}, api.ErrRange}, {api.Field{Data: data}, api.ErrLong}} {
		if got, e := extension.Size(c.f); got != 0 || e != c.want {
			t.Errorf("Size of type %d with %d bytes is %d and %v, want %v", c.f.Type, len(c.f.Data), got, e, c.want)
		}
	}
}

func TestKnownBytes(t *testing.T) {
	zeros := "000000000000000000000000"
	for _, c := range []struct {
		l      []api.Field
		want   string
		places []int
	}{
		{nil, "", nil},
		{[]api.Field{{}}, "00000010" + zeros, []int{0}},
		{[]api.Field{{Type: 65535, Data: []byte{7}}}, "ffff0010" + "07" + zeros[2:], []int{0}},
		{[]api.Field{{Type: 258, Data: []byte{1, 2, 3}}, {Type: 3}}, "01020010" + "010203" + zeros[6:] + "00030010" + zeros, []int{0, 16}},
		{[]api.Field{{Type: 2, Data: []byte("thirteen byte")}, {}, {Type: 1}}, "00020014" + hex.EncodeToString([]byte("thirteen byte")) + "000000" + "00000010" + zeros + "00010010" + zeros, []int{0, 20, 36}},
		{[]api.Field{{Data: []byte("twelve bytes")}}, "00000010" + hex.EncodeToString([]byte("twelve bytes")), []int{0}},
	} {
		want, err := hex.DecodeString(c.want)
		if err != nil {
			t.Fatal(err)
		}
		if b, e := extension.Encode(c.l); e != api.OK || !bytes.Equal(b, want) {
			t.Errorf("Encode of %v is %x and %v, want %s", c.l, b, e, c.want)
		}
		if got, e := extension.Places(want); e != api.OK || !slices.Equal(got, c.places) {
			t.Errorf("Places of %s is %v and %v, want %v", c.want, got, e, c.places)
		}
		checkDecode(t, want)
	}
}

func TestEncode(t *testing.T) {
	for _, l := range lists() {
		checkEncode(t, l)
	}
}

// Decode of Encode is the fields, with zeros behind their data, and Encode of that the bytes again.
func TestBothWays(t *testing.T) {
	for _, l := range lists() {
		b, e := extension.Encode(l)
		if e != api.OK {
			t.Fatalf("Encode of %v returns %v", l, e)
		}
		checkDecode(t, b)
		back, e := extension.Decode(b)
		if e != api.OK || len(back) != len(l) {
			t.Fatalf("Decode of %x is %v and %v", b, back, e)
		}
		for k, f := range l {
			size, _ := extension.Size(f)
			padded := append(bytes.Clone(f.Data), make([]byte, size-4-len(f.Data))...)
			if back[k].Type != f.Type || !bytes.Equal(back[k].Data, padded) {
				t.Fatalf("field %d of %v comes back as %v", k, l, back[k])
			}
		}
		if again, e := extension.Encode(back); e != api.OK || !bytes.Equal(again, b) {
			t.Fatalf("Encode of Decode of %x is %x and %v", b, again, e)
		}
	}
}

func TestEncodeErrors(t *testing.T) {
	many := func(n int, more ...api.Field) []api.Field { return append(make([]api.Field, n), more...) }
	long, half, low, high := filled(1, 1229), filled(1, 612), api.Field{Type: -1}, api.Field{Type: 65536}
	for k, c := range []struct {
		l    []api.Field
		want api.Errno
	}{
		{[]api.Field{low}, api.ErrRange},
		{[]api.Field{high}, api.ErrRange},
		{[]api.Field{long}, api.ErrLong},
		{[]api.Field{{}, long, low}, api.ErrLong},
		{[]api.Field{{}, high, long}, api.ErrRange},
		{[]api.Field{{Type: -1, Data: long.Data}}, api.ErrRange},
		{many(24), api.OK},
		{many(25), api.ErrLimit},
		{many(100000), api.ErrLimit},
		// The error of a field comes before the two of all of them, wherever the field stands.
		{many(25, low), api.ErrRange},
		{many(25, long), api.ErrLong},
		{[]api.Field{half, half, {}, high}, api.ErrRange},
		// Too many fields come before too many bytes.
		{many(22, half, half), api.ErrLong},
		{many(22, half, half, half), api.ErrLimit},
		{[]api.Field{half, half}, api.OK},
		{[]api.Field{half, filled(1, 613)}, api.ErrLong},
		{[]api.Field{half, half, {}}, api.ErrLong},
		{many(23, filled(1, 860)), api.OK},
		{many(23, filled(1, 861)), api.ErrLong},
	} {
		b, e := extension.Encode(c.l)
		if e != c.want || e != api.OK && len(b) != 0 {
			t.Errorf("Encode, case %d: %d bytes and %v, want %v", k, len(b), e, c.want)
		}
		checkEncode(t, c.l)
	}
}

// head is the head of a field with these numbers.
func head(kind, size int) []byte {
	return []byte{byte(kind >> 8), byte(kind), byte(size >> 8), byte(size)}
}

// field is the bytes of a field of this size, of which only the last one is not 0.
func field(size int) []byte {
	b := append(head(9, size), make([]byte, size-4)...)
	b[size-1] = 1
	return b
}

func joined(l ...[]byte) []byte {
	return bytes.Join(l, nil)
}

func TestDecodeErrors(t *testing.T) {
	all := bytes.Repeat(field(16), 24)
	for k, c := range []struct {
		b    []byte
		want api.Errno
	}{
		{nil, api.OK},
		{[]byte{}, api.OK},
		{field(1232), api.OK},
		{field(1236), api.ErrLong},
		{make([]byte, 1233), api.ErrLong},
		{make([]byte, 70000), api.ErrLong},
		{append(field(1228), 1), api.ErrShort},
		{append(field(1232), 1), api.ErrLong},
		{[]byte{0}, api.ErrShort},
		{[]byte{0, 0, 0}, api.ErrShort},
		{make([]byte, 4), api.ErrForm},
		{joined(head(1, 12), make([]byte, 8)), api.ErrForm},
		{joined(head(1, 17), make([]byte, 13)), api.ErrForm},
		{joined(head(1, 18), make([]byte, 14)), api.ErrForm},
		{joined(head(1, 19), make([]byte, 15)), api.ErrForm},
		// A size without the form comes before bytes that are missing.
		{head(1, 65535), api.ErrForm},
		{head(1, 65532), api.ErrShort},
		{head(1, 16), api.ErrShort},
		{field(16)[:15], api.ErrShort},
		{field(16), api.OK},
		{joined(field(16), []byte{1, 2, 3}), api.ErrShort},
		{joined(field(20), head(0, 12)), api.ErrForm},
		{joined(field(20), head(0, 24)), api.ErrShort},
		{joined(field(20), field(16)[:12]), api.ErrShort},
		// The fields in order: the first one that has an error decides.
		{joined(head(0, 18), make([]byte, 14), []byte{1}), api.ErrForm},
		{joined(field(16), head(0, 1200), head(0, 3)), api.ErrShort},
		// Of a field beyond the last one that there may be the other errors come first.
		{all, api.OK},
		{joined(all, []byte{0}), api.ErrShort},
		{joined(all, head(0, 18)), api.ErrForm},
		{joined(all, head(0, 16)), api.ErrShort},
		{joined(all, field(16)), api.ErrLimit},
		{joined(all, field(16), []byte{1}), api.ErrLimit},
		{joined(all, field(20), head(0, 3)), api.ErrLimit},
		{joined(bytes.Repeat(field(16), 23), field(864)), api.OK},
		{joined(bytes.Repeat(field(16), 23), field(864), []byte{1}), api.ErrLong},
	} {
		l, e := extension.Decode(c.b)
		places, f := extension.Places(c.b)
		if e != c.want || f != c.want || e != api.OK && (len(l) != 0 || len(places) != 0) {
			t.Errorf("case %d: Decode returns %d fields and %v, Places %v and %v, want %v", k, len(l), e, places, f, c.want)
		}
		checkDecode(t, c.b)
	}
}

// All sizes that a head can say, with some bytes behind it.
func TestAllSizes(t *testing.T) {
	for size := range 65536 {
		checkDecode(t, append(head(size, size), 5, 6, 7, 8, 9, 10, 11, 12, 13, 14, 15, 16))
	}
	for size := range 1300 {
		for _, more := range []int{0, 16, 24, 1228} {
			checkDecode(t, append(head(1, size), make([]byte, more)...))
		}
	}
}

// Every beginning of the bytes of fields, and every byte of them with other values.
func TestChangedBytes(t *testing.T) {
	r := rand.New(rand.NewSource(23))
	for range 60 {
		b, _ := standardEncode(randomList(r))
		for size := range b {
			checkDecode(t, b[:size])
			kept := b[size]
			for _, value := range []byte{0, 1, 4, 16, 20, 255, byte(r.Intn(256))} {
				b[size] = value
				checkDecode(t, b)
			}
			b[size] = kept
		}
	}
}

// Of what Decode returns Encode is the bytes, whatever the bytes are.
func TestEncodeUndoesDecode(t *testing.T) {
	r := rand.New(rand.NewSource(24))
	for range 500 {
		var b []byte
		for range r.Intn(25) {
			f := field(16 + 4*r.Intn(9))
			r.Read(f[4:])
			r.Read(f[:2])
			b = append(b, f...)
		}
		checkDecode(t, b)
		l, e := extension.Decode(b)
		if e != api.OK {
			t.Fatalf("Decode of %x returns %v", b, e)
		}
		if again, e := extension.Encode(l); e != api.OK || !bytes.Equal(again, b) {
			t.Fatalf("Encode of Decode of %x is %x and %v", b, again, e)
		}
	}
}

func spoil(b []byte) {
	b = b[:cap(b)]
	for k := range b {
		b[k] ^= 0xff
	}
}

// Results are new, arguments stay as they are, and what lies behind an argument has no part in the result.
func TestMemory(t *testing.T) {
	roomy := joined(field(20), field(16), field(24), bytes.Repeat([]byte{7}, 100))
	kept := bytes.Clone(roomy)
	want, _, _ := standardDecode(kept[:60])
	for range 2 {
		l, e := extension.Decode(roomy[:60])
		for k := range l {
			spoil(l[k].Data)
			for n := k + 1; n < len(l); n++ {
				if !bytes.Equal(l[n].Data, want[n].Data) {
					t.Fatalf("the data %d and %d of Decode share memory", k, n)
				}
			}
		}
		extension.Decode(roomy[:59])
		extension.Places(roomy[:60])
		extension.Places(roomy[:59])
		if e != api.OK || !bytes.Equal(roomy, kept) {
			t.Fatalf("Decode shares memory with its argument, or changes it, or returns %v", e)
		}
	}
	data := []byte{1, 2, 3, 4, 5, 6, 7, 8, 9, 10, 11, 12, 13, 14, 15, 16}
	fields := []api.Field{{Type: 1, Data: data[:2]}, {Type: 2, Data: data[:12]}, {Type: 1}}
	for range 2 {
		b, e := extension.Encode(fields)
		extension.Size(fields[0])
		l := extension.Find(fields, 1)
		spoil(b)
		l[0] = 7
		extension.Same(fields, fields)
		if e != api.OK || !slices.Equal(data, []byte{1, 2, 3, 4, 5, 6, 7, 8, 9, 10, 11, 12, 13, 14, 15, 16}) {
			t.Fatalf("Encode shares memory with its argument, or changes it, or returns %v", e)
		}
		checkEncode(t, fields)
	}
}
