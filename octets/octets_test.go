package octets_test

import (
	"bytes"
	"math"
	"testing"

	"sectime/octets"
)

// numbers of every length in bytes, with the bounds of each length.
func numbers() []uint64 {
	l := []uint64{0, math.MaxUint64, 0x0102030405060708}
	for k := range 64 {
		l = append(l, 1<<k, 1<<k-1)
	}
	return l
}

func TestPut(t *testing.T) {
	for _, c := range []struct {
		v    uint64
		n    int
		want []byte
	}{
		{0x0102030405060708, 8, []byte{1, 2, 3, 4, 5, 6, 7, 8}},
		{0x0102030405060708, 1, []byte{8}},
		{0x0102030405060708, 5, []byte{4, 5, 6, 7, 8}},
		{0x0102030405060708, 9, []byte{0, 1, 2, 3, 4, 5, 6, 7, 8}},
		{math.MaxUint64, 8, bytes.Repeat([]byte{255}, 8)},
		{math.MaxUint64, 12, append(make([]byte, 4), bytes.Repeat([]byte{255}, 8)...)},
		{0x100, 1, []byte{0}},
		{0, 3, []byte{0, 0, 0}},
		{5, 64, append(make([]byte, 63), 5)},
		{5, 0, nil},
		{5, -1, nil},
		{5, 65, nil},
		{5, math.MinInt, nil},
		{5, math.MaxInt, nil},
	} {
		if got := octets.Put(c.v, c.n); !bytes.Equal(got, c.want) {
			t.Errorf("Put(%#x, %d) = %v, want %v", c.v, c.n, got, c.want)
		}
	}
}

func TestGet(t *testing.T) {
	for _, c := range []struct {
		b    []byte
		want uint64
	}{
		{nil, 0},
		{[]byte{}, 0},
		{[]byte{0}, 0},
		{[]byte{200}, 200},
		{[]byte{1, 0}, 256},
		{[]byte{1, 2, 3}, 0x010203},
		{[]byte{1, 2, 3, 4, 5, 6, 7, 8}, 0x0102030405060708},
		{[]byte{9, 1, 2, 3, 4, 5, 6, 7, 8}, 0x0102030405060708},
		{bytes.Repeat([]byte{255}, 8), math.MaxUint64},
		{append(bytes.Repeat([]byte{255}, 100), 0, 0, 0, 0, 0, 0, 1, 2), 258},
	} {
		if got := octets.Get(c.b); got != c.want {
			t.Errorf("Get(%v) = %#x, want %#x", c.b, got, c.want)
		}
	}
}

func TestGetUndoesPut(t *testing.T) {
	for _, v := range numbers() {
		for n := range 65 {
			want := v
			if n < 8 {
				want = v % (1 << (8 * n))
			}
			b := octets.Put(v, n)
			if len(b) != n || octets.Get(b) != want {
				t.Errorf("Put(%#x, %d) = %v, and Get of it is %#x, want %#x", v, n, b, octets.Get(b), want)
			}
		}
	}
}

func TestJoin(t *testing.T) {
	for _, c := range []struct {
		l    [][]byte
		want []byte
	}{
		{nil, nil},
		{[][]byte{nil}, nil},
		{[][]byte{nil, {}, nil}, nil},
		{[][]byte{{1, 2}}, []byte{1, 2}},
		{[][]byte{{1, 2}, {3}}, []byte{1, 2, 3}},
		{[][]byte{{3}, nil, {1, 2}, {}, {0}}, []byte{3, 1, 2, 0}},
	} {
		if got := octets.Join(c.l...); !bytes.Equal(got, c.want) {
			t.Errorf("Join(%v) = %v, want %v", c.l, got, c.want)
		}
	}
}

func TestSame(t *testing.T) {
	for _, c := range []struct {
		a, b []byte
		want bool
	}{
		{nil, nil, true},
		{nil, []byte{}, true},
		{nil, []byte{0}, false},
		{[]byte{0}, []byte{0, 0}, false},
		{[]byte{1, 2, 3}, []byte{1, 2, 3}, true},
		{[]byte{1, 2, 3}, []byte{1, 2, 4}, false},
		{[]byte{1, 2, 3}, []byte{0, 2, 3}, false},
		{[]byte{1, 2, 3}, []byte{3, 2, 1}, false},
	} {
		if octets.Same(c.a, c.b) != c.want || octets.Same(c.b, c.a) != c.want {
			t.Errorf("Same(%v, %v) is not %v both ways", c.a, c.b, c.want)
		}
	}
}

func TestCut(t *testing.T) {
	for size := range 5 {
		b := []byte{1, 2, 3, 4}[:size]
		for n := range size + 1 {
			head, tail, ok := octets.Cut(b, n)
			if !ok || !bytes.Equal(head, b[:n]) || !bytes.Equal(tail, b[n:]) {
				t.Errorf("Cut(%v, %d) = %v, %v, %v", b, n, head, tail, ok)
			}
		}
		for _, n := range []int{-1, size + 1, math.MinInt, math.MaxInt} {
			head, tail, ok := octets.Cut(b, n)
			if ok || len(head) != 0 || len(tail) != 0 {
				t.Errorf("Cut(%v, %d) = %v, %v, %v, want nothing and false", b, n, head, tail, ok)
			}
		}
	}
	// Bytes behind the length of a list are not part of it.
	if _, _, ok := octets.Cut(make([]byte, 2, 8), 3); ok {
		t.Error("Cut reaches beyond the length of the list")
	}
}

func TestPad(t *testing.T) {
	for size := range 130 {
		b := bytes.Repeat([]byte{7}, size)
		for n := 1; n <= 64; n++ {
			got := octets.Pad(b, n)
			zeros := len(got) - size
			if zeros < 0 || zeros >= n || len(got)%n != 0 || !bytes.Equal(got, append(bytes.Repeat([]byte{7}, size), make([]byte, zeros)...)) {
				t.Errorf("Pad of %d bytes to a multiple of %d is %v", size, n, got)
			}
		}
		for _, n := range []int{0, -1, 65, math.MinInt, math.MaxInt} {
			if got := octets.Pad(b, n); !bytes.Equal(got, b) {
				t.Errorf("Pad of %d bytes for %d is %v, want the bytes alone", size, n, got)
			}
		}
	}
}

// spare returns a copy of b with room behind it, filled with ones, that no function may write to or show.
func spare(b []byte) []byte {
	room := bytes.Repeat([]byte{1}, len(b)+100)
	copy(room, b)
	return room[:len(b)]
}

// spoil changes all the memory of a list, so that whatever shares it shows.
func spoil(b []byte) {
	b = b[:cap(b)]
	for k := range b {
		b[k] ^= 0xff
	}
}

func TestMemory(t *testing.T) {
	want := []byte{1, 2, 3, 4, 5, 6}
	for _, c := range []struct {
		name    string
		results func(b []byte) [][]byte
	}{
		{"Join of one", func(b []byte) [][]byte { return [][]byte{octets.Join(b)} }},
		{"Join of two", func(b []byte) [][]byte { return [][]byte{octets.Join(b, b)} }},
		{"Cut", func(b []byte) [][]byte { h, l, _ := octets.Cut(b, 2); return [][]byte{h, l} }},
		{"Cut at 0", func(b []byte) [][]byte { h, l, _ := octets.Cut(b, 0); return [][]byte{h, l} }},
		{"Cut at the end", func(b []byte) [][]byte { h, l, _ := octets.Cut(b, 6); return [][]byte{h, l} }},
		{"Pad", func(b []byte) [][]byte { return [][]byte{octets.Pad(b, 8)} }},
		{"Pad of a whole unit", func(b []byte) [][]byte { return [][]byte{octets.Pad(b, 6)} }},
		{"Pad to nothing", func(b []byte) [][]byte { return [][]byte{octets.Pad(b, 0)} }},
	} {
		b := spare(want)
		room := bytes.Clone(b[:cap(b)])
		results := c.results(b)
		for k, r := range results {
			before := octets.Join(results[k+1:]...)
			spoil(r)
			if !bytes.Equal(octets.Join(results[k+1:]...), before) {
				t.Errorf("%s: two results share memory", c.name)
			}
		}
		if !bytes.Equal(b[:cap(b)], room) {
			t.Errorf("%s: shares memory with its argument, or changes it", c.name)
		}
	}
}
