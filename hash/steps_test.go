package hash_test

import (
	"bytes"
	"crypto/sha256"
	"encoding"
	"encoding/binary"
	"math"
	"slices"
	"testing"

	"sectime/api"
	"sectime/hash"
)

const most = 1 << 40

// written returns a computation as the library's SHA-256 writes it down.
func written(h api.Hash) []byte {
	b := []byte("sha\x03")
	for _, x := range h.Words {
		b = binary.BigEndian.AppendUint32(b, x)
	}
	b = append(b, h.Rest...)
	b = append(b, make([]byte, 64-len(h.Rest))...)
	return binary.BigEndian.AppendUint64(b, uint64(h.Count))
}

// further returns what the library makes of a computation and further bytes: its next state, as it writes it down, and the hash.
func further(t *testing.T, h api.Hash, b []byte) (next, sum []byte) {
	t.Helper()
	d := sha256.New()
	if err := d.(encoding.BinaryUnmarshaler).UnmarshalBinary(written(h)); err != nil {
		t.Fatal(err)
	}
	d.Write(b)
	next, err := d.(encoding.BinaryMarshaler).MarshalBinary()
	if err != nil {
		t.Fatal(err)
	}
	return next, d.Sum(nil)
}

func sameHash(a, b api.Hash) bool {
	return slices.Equal(a.Words, b.Words) && bytes.Equal(a.Rest, b.Rest) && a.Count == b.Count
}

func cloned(h api.Hash) api.Hash {
	return api.Hash{Words: slices.Clone(h.Words), Rest: bytes.Clone(h.Rest), Count: h.Count}
}

func spoilHash(h api.Hash) {
	for k := range h.Words {
		h.Words[k]++
	}
	spoil(h.Rest)
}

func zeroHash(h api.Hash) bool {
	return len(h.Words) == 0 && len(h.Rest) == 0 && h.Count == 0
}

// counted is a valid computation of so many bytes, that need not have begun with Begin.
func counted(count int) api.Hash {
	return api.Hash{Words: []uint32{1, 1 << 31, math.MaxUint32, 0, 5, 6, 7, 8}, Rest: message(count % 64), Count: count}
}

func TestBegin(t *testing.T) {
	want := api.Hash{Words: []uint32{0x6a09e667, 0xbb67ae85, 0x3c6ef372, 0xa54ff53a, 0x510e527f, 0x9b05688c, 0x1f83d9ab, 0x5be0cd19}}
	h := hash.Begin()
	if !sameHash(h, want) || !hash.Valid(h) {
		t.Errorf("Begin is %v, valid: %v, want %v", h, hash.Valid(h), want)
	}
	spoilHash(h)
	if again := hash.Begin(); !sameHash(again, want) {
		t.Errorf("Begin is %v at first, and then %v", want, again)
	}
	if sum, e := hash.End(want); e != api.OK || !bytes.Equal(sum, hash.Sum(nil)) {
		t.Errorf("End of Begin is %x and %v, want Sum of nothing", sum, e)
	}
}

// End of More of Begin is Sum, and every state between is the library's, in two parts of all lengths.
func TestTwoParts(t *testing.T) {
	b := message(200)
	for size := range len(b) + 1 {
		want := hash.Sum(b[:size])
		for at := range size + 1 {
			h, e := hash.More(hash.Begin(), b[:at])
			g, f := hash.More(h, b[at:size])
			sum, end := hash.End(g)
			if e != api.OK || f != api.OK || end != api.OK || !bytes.Equal(sum, want) {
				t.Fatalf("%d bytes, divided at %d: %x and %v, %v, %v, want %x", size, at, sum, e, f, end, want)
			}
			if !hash.Valid(g) || g.Count != size || !bytes.Equal(g.Rest, b[size-size%64:size]) {
				t.Fatalf("%d bytes, divided at %d: Count %d and Rest %x", size, at, g.Count, g.Rest)
			}
		}
	}
}

func TestManyParts(t *testing.T) {
	b := message(1000)
	for size := 1; size <= 130; size++ {
		h := hash.Begin()
		for part := range slices.Chunk(b, size) {
			h, _ = hash.More(h, part)
			h, _ = hash.More(h, nil)
		}
		if sum, e := hash.End(h); e != api.OK || !bytes.Equal(sum, hash.Sum(b)) {
			t.Errorf("parts of %d bytes: %x and %v, want %x", size, sum, e, hash.Sum(b))
		}
	}
}

// Any valid computation goes on, also one that no bytes led to, up to the greatest Count.
func TestAnyComputation(t *testing.T) {
	for _, c := range []struct{ count, size int }{
		{0, 0}, {0, 1}, {0, 64}, {1, 0}, {1, 62}, {1, 63}, {1, 64}, {55, 0}, {56, 0}, {63, 0}, {63, 1}, {63, 66}, {64, 0}, {64, 200},
		{1<<32 - 1, 2}, {1<<32 + 60, 5}, {most - 200, 200}, {most - 64, 64}, {most - 64, 63}, {most - 1, 0}, {most - 1, 1}, {most, 0},
	} {
		h, b := counted(c.count), message(c.size)
		next, sum := further(t, h, b)
		got, e := hash.More(h, b)
		if e != api.OK || !hash.Valid(got) || got.Count != c.count+c.size || !bytes.Equal(written(got)[:36+len(got.Rest)], next[:36+got.Count%64]) {
			t.Errorf("More of %d bytes behind %d is %v and %v, want %x", c.size, c.count, got, e, next)
		}
		if end, e := hash.End(got); e != api.OK || !bytes.Equal(end, sum) {
			t.Errorf("End of %d bytes behind %d is %x and %v, want %x", c.size, c.count, end, e, sum)
		}
	}
}

func TestValid(t *testing.T) {
	eight := make([]uint32, 8)
	for k, h := range []api.Hash{
		counted(0), counted(1), counted(63), counted(64), counted(most - 1), counted(most),
		{Words: eight, Rest: []byte{}}, {Words: eight, Rest: make([]byte, 63), Count: 127},
	} {
		if !hash.Valid(h) {
			t.Errorf("case %d: %v is not valid", k, h)
		}
	}
	for k, h := range []api.Hash{
		{},
		{Words: eight[:7]},
		{Words: make([]uint32, 9)},
		{Words: make([]uint32, 16)},
		{Words: eight, Count: 1},
		{Words: eight, Rest: []byte{0}},
		{Words: eight, Rest: make([]byte, 64)},
		{Words: eight, Rest: make([]byte, 64), Count: 64},
		{Words: eight, Rest: make([]byte, 65), Count: 65},
		{Words: eight, Rest: make([]byte, 2), Count: 65},
		{Words: eight, Rest: make([]byte, 63), Count: 64},
		{Words: eight, Rest: make([]byte, 63), Count: -1},
		{Words: eight, Rest: make([]byte, 1), Count: -1},
		{Words: eight, Count: -1},
		{Words: eight, Count: -64},
		{Words: eight, Count: math.MinInt},
		{Words: eight, Rest: make([]byte, 63), Count: math.MaxInt},
		{Words: eight, Rest: make([]byte, 1), Count: most + 1},
		{Words: eight, Count: most + 64},
	} {
		if hash.Valid(h) {
			t.Errorf("case %d: %v is valid", k, h)
		}
		for _, b := range [][]byte{nil, {1}, make([]byte, 64)} {
			if next, e := hash.More(h, b); e != api.ErrForm || !zeroHash(next) {
				t.Errorf("case %d: More of %d bytes is %v and %v, want nothing and ErrForm", k, len(b), next, e)
			}
		}
		if sum, e := hash.End(h); e != api.ErrForm || len(sum) != 0 {
			t.Errorf("case %d: End is %x and %v, want nothing and ErrForm", k, sum, e)
		}
	}
}

func TestTooManyBytes(t *testing.T) {
	for _, c := range []struct{ count, size int }{{most, 1}, {most, 64}, {most - 1, 2}, {most - 64, 65}, {most - 200, 201}} {
		if h, e := hash.More(counted(c.count), make([]byte, c.size)); e != api.ErrLong || !zeroHash(h) {
			t.Errorf("More of %d bytes behind %d is %v and %v, want nothing and ErrLong", c.size, c.count, h, e)
		}
	}
}

// A computation can be gone on with twice, and what it became is not changed through it.
func TestMemoryOfComputations(t *testing.T) {
	for _, count := range []int{0, 1, 63, 64, 100} {
		for _, size := range []int{0, 1, 27, 28, 63, 64, 200} {
			// The room behind the rest and behind the bytes belongs to somebody else.
			room, behind := message(count%64+300), message(size+300)
			h, b := counted(count), behind[:size]
			h.Rest = room[:len(h.Rest)]
			before := cloned(h)
			one, _ := hash.More(h, b)
			two, _ := hash.More(h, b)
			kept := cloned(two)
			spoilHash(one)
			if !sameHash(two, kept) {
				t.Errorf("%d bytes behind %d: two computations share memory", size, count)
			}
			sum, _ := hash.End(h)
			spoil(sum)
			if !sameHash(h, before) || !bytes.Equal(room, message(len(room))) || !bytes.Equal(behind, message(len(behind))) {
				t.Errorf("%d bytes behind %d: a result shares memory with an argument, or an argument is changed", size, count)
			}
			spoilHash(h)
			spoil(behind)
			if !sameHash(two, kept) {
				t.Errorf("%d bytes behind %d: a computation changes with what it came from", size, count)
			}
		}
	}
}
