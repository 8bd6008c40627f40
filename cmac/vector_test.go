package cmac_test

import (
	"bytes"
	"testing"

	"sectime/api"
	"sectime/cmac"
	"sectime/octets"
)

// most is how many elements a list of Vector may have.
const most = 17

// standardVector is Vector with the standard Cmac.
func standardVector(t *testing.T, key []byte, l [][]byte) []byte {
	t.Helper()
	if len(l) == 0 {
		return standard(t, key, append(make([]byte, 15), 1))
	}
	d := standard(t, key, make([]byte, 16))
	for len(l) > 1 {
		d = xor(twice(d), standard(t, key, l[0]))
		l = l[1:]
	}
	if len(l[0]) < 16 {
		return standard(t, key, xor(twice(d), marked(l[0])))
	}
	before := make([]byte, len(l[0])-16)
	return standard(t, key, xor(l[0], append(before, d...)))
}

// checkVector compares Vector with the standard one.
func checkVector(t *testing.T, key []byte, l [][]byte) {
	t.Helper()
	want := standardVector(t, key, l)
	if got, e := cmac.Vector(key, l); e != api.OK || !bytes.Equal(got, want) {
		t.Errorf("Vector(%x, %x) = %x, %v, want %x", key, l, got, e, want)
	}
}

// The examples of RFC 5297.
func TestKnownVectors(t *testing.T) {
	for _, c := range []struct {
		key  string
		l    []string
		want string
	}{
		{"fffefdfcfbfaf9f8f7f6f5f4f3f2f1f0", []string{
			"101112131415161718191a1b1c1d1e1f2021222324252627",
			"112233445566778899aabbccddee",
		}, "85632d07c6e8f37f950acd320a2ecc93"},
		{"7f7e7d7c7b7a79787776757473727170", []string{
			"00112233445566778899aabbccddeeffdeaddadadeaddadaffeeddccbbaa99887766554433221100",
			"102030405060708090a0",
			"09f911029d74e35bd84156c5635688c0",
			"7468697320697320736f6d6520706c61696e7465787420746f20656e6372797074207573696e67205349562d414553",
		}, "7bdb6e3b432667eb06f4d14bff2fbd0f"},
	} {
		var l [][]byte
		for _, s := range c.l {
			l = append(l, unhex(t, s))
		}
		if b, e := cmac.Vector(unhex(t, c.key), l); e != api.OK || octets.Hex(b) != c.want {
			t.Errorf("Vector of %d elements is %x and %v, want %s", len(l), b, e, c.want)
		}
	}
}

func TestVectorOfNothing(t *testing.T) {
	for _, key := range patterns() {
		checkVector(t, key, nil)
		checkVector(t, key, [][]byte{})
	}
}

// Last elements on both sides of a block, alone and behind others of all lengths, an empty one among them.
func TestVectorOfAllLengths(t *testing.T) {
	for _, key := range [][]byte{message(3, 16), message(90, 16), message(91, 16), bytes.Repeat([]byte{255}, 16)} {
		for size := range 70 {
			last := message(40, size)
			checkVector(t, key, [][]byte{last})
			for _, other := range []int{0, 1, 15, 16, 17, 31, 32, 33, 64} {
				checkVector(t, key, [][]byte{message(120, other), last})
				checkVector(t, key, [][]byte{message(120, other), last, message(200, other)})
			}
		}
	}
}

// Lists of every number of elements, each element of another length.
func TestVectorOfAllNumbers(t *testing.T) {
	for _, first := range []int{0, 5, 14, 15, 16} {
		for n := range most + 1 {
			var l [][]byte
			for k := range n {
				l = append(l, message(byte(11*k), (first+13*k)%50))
			}
			checkVector(t, message(3, 16), l)
			checkVector(t, message(3, 16), make([][]byte, n))
		}
	}
}

func TestElementsOfNil(t *testing.T) {
	key := message(3, 16)
	for k := range 4 {
		none, empty := make([][]byte, 4), [][]byte{{}, {}, {}, {}}
		none[k], empty[k] = message(40, 20), message(40, 20)
		a, _ := cmac.Vector(key, none)
		b, _ := cmac.Vector(key, empty)
		if !bytes.Equal(a, b) || len(a) != 16 {
			t.Errorf("Vector with elements of nil is %x, and %x with empty ones", a, b)
		}
	}
}

// Elements of the greatest length, in every place of the longest list.
func TestLongestElements(t *testing.T) {
	key, long := message(3, 16), message(40, api.MaxMessage)
	checkVector(t, key, [][]byte{long})
	checkVector(t, key, [][]byte{long[1:], long})
	var all [][]byte
	for k := range most {
		l := make([][]byte, most)
		l[k] = long
		want := standardVector(t, key, l)
		if got, e := cmac.Vector(key, l); e != api.OK || !bytes.Equal(got, want) {
			t.Errorf("Vector with %d bytes as element %d is %x and %v, want %x", len(long), k, got, e, want)
		}
		all = append(all, long)
	}
	want := standardVector(t, key, all)
	if got, e := cmac.Vector(key, all); e != api.OK || !bytes.Equal(got, want) {
		t.Errorf("Vector of %d elements of %d bytes is %x and %v, want %x", most, len(long), got, e, want)
	}
}

func TestErrorsOfVector(t *testing.T) {
	right, long := message(3, 16), make([]byte, api.MaxMessage+1)
	longAt := func(n, at int) [][]byte {
		l := make([][]byte, n)
		l[at] = long
		return l
	}
	for _, c := range []struct {
		key  []byte
		l    [][]byte
		want api.Errno
	}{
		{nil, nil, api.ErrKey},
		{nil, make([][]byte, most+1), api.ErrKey},
		{right[1:], longAt(1, 0), api.ErrKey},
		{right[1:], longAt(most+1, 0), api.ErrKey},
		{message(3, 17), make([][]byte, most), api.ErrKey},
		{message(3, 32), longAt(most+1, most), api.ErrKey},
		{right, make([][]byte, most+1), api.ErrLimit},
		{right, make([][]byte, 1000), api.ErrLimit},
		{right, longAt(most+1, 0), api.ErrLimit},
		{right, longAt(most+1, most), api.ErrLimit},
		{right, longAt(1, 0), api.ErrLong},
		{right, [][]byte{long, long, long}, api.ErrLong},
		{right, [][]byte{make([]byte, api.MaxMessage+16)}, api.ErrLong},
		{right, [][]byte{right, make([]byte, 2*api.MaxMessage), right}, api.ErrLong},
	} {
		if b, e := cmac.Vector(c.key, c.l); e != c.want || len(b) != 0 {
			t.Errorf("Vector with a key of %d bytes of %d elements returns %x and %v, want nothing and %v", len(c.key), len(c.l), b, e, c.want)
		}
	}
	for n := 1; n <= most; n++ {
		for at := range n {
			if b, e := cmac.Vector(right, longAt(n, at)); e != api.ErrLong || len(b) != 0 {
				t.Errorf("Vector of %d elements with a long one at %d returns %x and %v, want nothing and ErrLong", n, at, b, e)
			}
		}
	}
}
