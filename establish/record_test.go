package establish_test

import (
	"bytes"
	"encoding/binary"
	"math"
	"math/rand"
	"slices"
	"testing"

	"sectime/api"
	"sectime/establish"
)

// checkEncode compares Encode with the definition, and Decode of the bytes with the records.
func checkEncode(t *testing.T, l []api.Record) api.Errno {
	t.Helper()
	b, e := establish.Encode(l)
	want, f := standardEncode(l)
	if e != f || !bytes.Equal(b, want) {
		t.Fatalf("Encode of %d records is %d bytes and %v, want %d bytes and %v", len(l), len(b), e, len(want), f)
	}
	if e == api.OK {
		if again := checkDecode(t, b, api.OK); !sameRecords(again, l) {
			t.Fatalf("Decode of Encode of %d records is %d records", len(l), len(again))
		}
	}
	return e
}

// checkDecode compares Decode with the definition and with the error that is wanted, and Encode of the records with the bytes.
func checkDecode(t *testing.T, b []byte, wanted api.Errno) []api.Record {
	t.Helper()
	l, e := establish.Decode(b)
	want, f := standardDecode(b)
	if e != f || e != wanted || !sameRecords(l, want) {
		t.Fatalf("Decode of %d bytes is %d records and %v, want %d records and %v", len(b), len(l), e, len(want), wanted)
	}
	if e == api.OK {
		if again, e := establish.Encode(l); e != api.OK || !bytes.Equal(again, b) {
			t.Fatalf("Encode of Decode of %d bytes is %d bytes and %v", len(b), len(again), e)
		}
	}
	return l
}

func TestKnownRecords(t *testing.T) {
	for _, c := range []struct {
		l    []api.Record
		want string
	}{
		{nil, ""},
		{[]api.Record{record(0)}, "00000000"},
		{[]api.Record{must(0)}, "80000000"},
		{[]api.Record{record(1, 0, 0)}, "000100020000"},
		{[]api.Record{must(1, 0, 0), record(32767), must(0)}, "8001000200007fff000080000000"},
		{[]api.Record{must(32767, 9), record(256, 1, 2, 3)}, "ffff0001090100000301" + "0203"},
		{[]api.Record{record(5, counted(0, 258)...)}, "00050102" + hexOf(counted(0, 258))},
		{[]api.Record{must(0), must(0, 0, 0, 0, 0), must(0)}, "80000000" + "8000000400000000" + "80000000"},
	} {
		want := unhex(t, c.want)
		if b, e := establish.Encode(c.l); e != api.OK || !bytes.Equal(b, want) {
			t.Errorf("Encode of %v is %x and %v, want %s", c.l, b, e, c.want)
		}
		if l, e := establish.Decode(want); e != api.OK || !sameRecords(l, c.l) {
			t.Errorf("Decode of %s is %v and %v, want %v", c.want, l, e, c.l)
		}
	}
}

// Every type, critical or not, and types that there are not.
func TestTypes(t *testing.T) {
	for kind := range 32768 {
		for _, critical := range []bool{false, true} {
			l := []api.Record{{Critical: critical, Type: kind, Body: []byte{7}}}
			b, e := establish.Encode(l)
			back, f := establish.Decode(b)
			if e != api.OK || f != api.OK || !bytes.Equal(b, bytesOf(l...)) || !sameRecords(back, l) {
				t.Fatalf("Encode of %v is %x and %v, and Decode of it %v and %v", l, b, e, back, f)
			}
		}
	}
	for _, kind := range []int{-1, -32768, -65536, 32768, 32769, 32768 + 7, 65535, 65536, 65537, 1 << 32, math.MinInt, math.MaxInt} {
		for _, critical := range []bool{false, true} {
			if b, e := establish.Encode([]api.Record{must(0), {Critical: critical, Type: kind}}); e != api.ErrRange || len(b) != 0 {
				t.Errorf("Encode with the type %d is %x and %v, want ErrRange", kind, b, e)
			}
		}
	}
}

// Lengths of a Body, and numbers of records, around all limits.
func TestSizes(t *testing.T) {
	long := counted(3, 140000)
	for _, size := range []int{0, 1, 2, 254, 255, 256, 257, 511, 512, 65530, 65531, 65532, 65534, 65535, 65536, 65537, 65535 + 65536, 131072, 140000} {
		want := api.OK
		if size > 65531 {
			want = api.ErrLong
		}
		if e := checkEncode(t, []api.Record{must(3, long[:size]...)}); e != want {
			t.Errorf("Encode with a Body of %d bytes: %v, want %v", size, e, want)
		}
		for _, other := range []int{0, 1, 65522 - size, 65523 - size, 65527 - size, 65528 - size} {
			if other >= 0 {
				checkEncode(t, []api.Record{record(3, long[:size]...), must(4, long[:other]...)})
				checkEncode(t, []api.Record{record(3, long[:size]...), must(4, long[:other]...), must(0)})
			}
		}
	}
	for n := range 300 {
		want := api.OK
		if n > 64 {
			want = api.ErrLimit
		}
		if e := checkEncode(t, make([]api.Record, n)); e != want {
			t.Errorf("Encode of %d records: %v, want %v", n, e, want)
		}
		checkDecode(t, make([]byte, 4*n), want)
	}
	// 64 records may have as many bytes as a message, and one more not.
	for _, size := range []int{65535 - 4*64, 65536 - 4*64} {
		l := make([]api.Record, 63)
		checkEncode(t, append(l, must(5, long[:size]...)))
	}
}

// All lists of up to 3 elements, alone and with many records ahead of them: the first element with an error decides.
func TestEncodeErrors(t *testing.T) {
	long := counted(3, 65536)
	some := []api.Record{must(1, 2), {Type: -1}, {Type: 32768, Body: long}, record(1, long...), record(1, long[:65535]...), record(1, long[:40000]...), {Critical: true, Type: math.MaxInt, Body: long[:65535]}}
	for _, a := range some {
		checkEncode(t, []api.Record{a})
		for _, b := range some {
			checkEncode(t, []api.Record{a, b})
			for _, c := range some {
				checkEncode(t, []api.Record{a, b, c})
				checkEncode(t, append(make([]api.Record, 61), a, b, c))
				checkEncode(t, append(make([]api.Record, 62), a, b, c))
			}
		}
	}
	for k, c := range []struct {
		l    []api.Record
		want api.Errno
	}{
		{[]api.Record{record(1, long...), {Type: -1}}, api.ErrLong},
		{[]api.Record{{Type: -1}, record(1, long...)}, api.ErrRange},
		{[]api.Record{{Type: -1, Body: long}}, api.ErrRange},
		{[]api.Record{record(1, long[:65535]...), {Type: -1}}, api.ErrRange},
		{append(make([]api.Record, 70), api.Record{Type: 32768}), api.ErrRange},
		{append(make([]api.Record, 70), record(1, long...)), api.ErrLong},
		{append(make([]api.Record, 64), record(1, long[:65535]...)), api.ErrLimit},
		{append(make([]api.Record, 63), record(1, long[:65535]...)), api.ErrLong},
	} {
		if b, e := establish.Encode(c.l); e != c.want || len(b) != 0 {
			t.Errorf("case %d: Encode is %d bytes and %v, want %v", k, len(b), e, c.want)
		}
	}
}

func TestDecodeErrors(t *testing.T) {
	// Whatever is cut off, or too much.
	whole := bytesOf(must(1, 0, 0), record(9), must(4, counted(1, 300)...), must(0))
	for n := range whole {
		want := api.ErrShort
		if n == 0 || n == 6 || n == 10 || n == 314 {
			want = api.OK
		}
		checkDecode(t, whole[:n], want)
	}
	for k := range 4 {
		checkDecode(t, append(bytes.Clone(whole), make([]byte, k)...), []api.Errno{api.OK, api.ErrShort, api.ErrShort, api.ErrShort}[k])
	}
	for size := range 600 {
		b := append([]byte{0, 1, byte(size >> 8), byte(size)}, make([]byte, 300)...)
		_, e := standardDecode(b)
		checkDecode(t, b, e)
	}
	for k, c := range []struct {
		b    []byte
		want api.Errno
	}{
		{make([]byte, 65536), api.ErrLong},
		{make([]byte, 65537), api.ErrLong},
		{make([]byte, 1<<18), api.ErrLong},
		{append(bytesOf(record(1, make([]byte, 65531)...)), 0), api.ErrLong},
		{bytesOf(record(1, make([]byte, 65531)...)), api.OK},
		{bytesOf(record(1, make([]byte, 65532)...))[:65535], api.ErrShort},
		{make([]byte, 65535), api.ErrShort},
		{make([]byte, 65532), api.ErrLimit},
		{make([]byte, 256), api.OK},
		{make([]byte, 257), api.ErrShort},
		{make([]byte, 260), api.ErrLimit},
		{make([]byte, 261), api.ErrShort},
		{append(make([]byte, 260), 0, 0, 0, 1), api.ErrShort},
		{append(make([]byte, 260), 0, 0, 0, 1, 9), api.ErrLimit},
		{append(make([]byte, 260), 0xff, 0xff, 0xff, 0xff), api.ErrShort},
	} {
		if l := checkDecode(t, c.b, c.want); c.want != api.OK && len(l) != 0 {
			t.Errorf("case %d: Decode returns %v with an error", k, l)
		}
	}
}

// Random records, and random changes of their bytes.
func TestRandomRecords(t *testing.T) {
	random := rand.New(rand.NewSource(2100))
	for range 20000 {
		var l []api.Record
		for range random.Intn(6) {
			b := make([]byte, random.Intn(9))
			random.Read(b)
			l = append(l, api.Record{Critical: random.Intn(2) == 0, Type: random.Intn(32768), Body: b})
		}
		checkEncode(t, l)
		b := bytesOf(l...)
		for k := range b {
			if random.Intn(8) == 0 {
				b[k] = byte(random.Intn(20))
			}
		}
		_, e := standardDecode(b)
		checkDecode(t, b, e)
	}
}

func TestNumbers(t *testing.T) {
	for size := range 400 {
		b := counted(250, size)
		l, ok := establish.Numbers(b)
		if ok != (size%2 == 0) || len(l) != 0 && !ok {
			t.Fatalf("Numbers of %d bytes is %v and %v", size, l, ok)
		}
		if ok && (len(l) != size/2 || !bytes.Equal(body(l...), b)) {
			t.Fatalf("Numbers of %x is %v", b, l)
		}
	}
	for n := range 65536 {
		b := binary.BigEndian.AppendUint16([]byte{1, 2}, uint16(n))
		if l, ok := establish.Numbers(b); !ok || !slices.Equal(l, []int{258, n}) {
			t.Fatalf("Numbers of %x is %v and %v", b, l, ok)
		}
	}
	for size, want := range map[int]int{65534: 32767, 65536: 32768, 200000: 100000, 65535: 0, 65537: 0} {
		if l, ok := establish.Numbers(make([]byte, size)); ok != (size%2 == 0) || len(l) != want {
			t.Errorf("Numbers of %d bytes is %d numbers and %v", size, len(l), ok)
		}
	}
}
