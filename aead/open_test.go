package aead_test

import (
	"bytes"
	"testing"

	"sectime/aead"
	"sectime/api"
)

// sizes are lengths of plain bytes on both sides of a block.
var sizes = []int{0, 1, 15, 16, 17, 40}

// checkRefused checks that Open finds no plain bytes.
func checkRefused(t *testing.T, what string, key []byte, ad [][]byte, sealed []byte) {
	t.Helper()
	if b, e := aead.Open(key, ad, sealed); e != api.ErrAuth || len(b) != 0 {
		t.Errorf("%s: Open of %d bytes is %x and %v, want nothing and ErrAuth", what, len(sealed), b, e)
	}
}

func TestEveryBitIsAuthenticated(t *testing.T) {
	key, ad := message(3, 32), [][]byte{message(5, 20), nil}
	for _, size := range sizes {
		sealed := check(t, key, ad, message(40, size))
		for k := range 8 * len(sealed) {
			bad := bytes.Clone(sealed)
			bad[k/8] ^= 1 << (k % 8)
			checkRefused(t, "a changed bit", key, ad, bad)
		}
	}
}

func TestEveryLengthIsAuthenticated(t *testing.T) {
	key, ad := message(3, 32), [][]byte{message(5, 20), nil}
	for _, size := range sizes {
		sealed := check(t, key, ad, message(40, size))
		for n := 16; n < len(sealed); n++ {
			checkRefused(t, "missing bytes", key, ad, sealed[:n])
			checkRefused(t, "missing first bytes", key, ad, sealed[len(sealed)-n:])
		}
		for n := 1; n < 40; n++ {
			checkRefused(t, "zeros behind", key, ad, append(bytes.Clone(sealed), make([]byte, n)...))
			checkRefused(t, "bytes behind", key, ad, append(bytes.Clone(sealed), message(9, n)...))
			checkRefused(t, "zeros before", key, ad, append(make([]byte, n), sealed...))
		}
	}
}

// Every bit of the half of the tag, and of that of the stream if there is something in it.
func TestOtherKeys(t *testing.T) {
	ad := [][]byte{message(5, 20), nil}
	for _, size := range sizes {
		plain := message(40, size)
		sealed := check(t, message(3, 32), ad, plain)
		for k := range 8 * 32 {
			key := message(3, 32)
			key[k/8] ^= 1 << (k % 8)
			if size > 0 || k < 8*16 {
				checkRefused(t, "another key", key, ad, sealed)
			} else if b, e := aead.Open(key, ad, sealed); e != api.OK || len(b) != 0 {
				t.Errorf("Open of no plain bytes with another key of the stream is %x and %v, want nothing and OK", b, e)
			}
		}
		halves := message(3, 32)
		checkRefused(t, "exchanged halves", append(bytes.Clone(halves[16:]), halves[:16]...), ad, sealed)
	}
}

func TestOtherData(t *testing.T) {
	key, a, b := message(3, 32), message(5, 20), message(90, 9)
	ad := [][]byte{a, nil, b}
	for _, size := range sizes {
		plain := message(40, size)
		sealed := check(t, key, ad, plain)
		for _, c := range []struct {
			what string
			ad   [][]byte
		}{
			{"no data", nil},
			{"a missing first element", [][]byte{nil, b}},
			{"a missing element of nothing", [][]byte{a, b}},
			{"a missing last element", [][]byte{a, nil}},
			{"an element of nothing behind", [][]byte{a, nil, b, nil}},
			{"an element of nothing before", [][]byte{nil, a, nil, b}},
			{"an element twice", [][]byte{a, nil, b, b}},
			{"another order", [][]byte{nil, a, b}},
			{"the other order", [][]byte{b, nil, a}},
			{"joined elements", [][]byte{append(bytes.Clone(a), b...)}},
			{"moved bytes", [][]byte{a[:19], a[19:], b}},
			{"a shorter element", [][]byte{a[:19], nil, b}},
			{"a longer element", [][]byte{a, nil, append(bytes.Clone(b), 0)}},
			{"a byte for nothing", [][]byte{a, {0}, b}},
			{"a mark for nothing", [][]byte{a, {128}, b}},
			{"the plain bytes as an element", [][]byte{a, nil, b, plain}},
		} {
			checkRefused(t, c.what, key, c.ad, sealed)
		}
		for k := range 8 * len(a) {
			bad := bytes.Clone(a)
			bad[k/8] ^= 1 << (k % 8)
			checkRefused(t, "a changed bit of an element", key, [][]byte{bad, nil, b}, sealed)
		}
	}
}

// Every one of the most elements counts, wherever the bytes of the greatest length stand.
func TestEveryElementIsAuthenticated(t *testing.T) {
	key := message(3, 32)
	ad := make([][]byte, mostElements)
	for k := range ad {
		ad[k] = message(byte(k), 10+k)
	}
	sealed := check(t, key, ad, message(40, 20))
	for k := range ad {
		ad[k][k] ^= 1
		checkRefused(t, "a changed element", key, ad, sealed)
		ad[k][k] ^= 1
	}
	long := message(40, longest)
	sealed = check(t, key, [][]byte{long}, long)
	for _, k := range []int{0, 15, 16, longest - 1, longest + 15} {
		bad := bytes.Clone(sealed)
		bad[k] ^= 1
		checkRefused(t, "a long message", key, [][]byte{long}, bad)
		if k < longest {
			other := bytes.Clone(long)
			other[k] ^= 1
			checkRefused(t, "a long element", key, [][]byte{other}, sealed)
		}
	}
}

// Bytes that nobody sealed, and parts of sealed ones put together.
func TestForgedBytes(t *testing.T) {
	key, ad := message(3, 32), [][]byte{message(5, 20)}
	for size := 16; size < 90; size++ {
		checkRefused(t, "zeros", key, ad, make([]byte, size))
		checkRefused(t, "any bytes", key, ad, message(60, size))
	}
	checkRefused(t, "the most zeros", key, ad, make([]byte, api.MaxMessage))
	a, b := check(t, key, ad, message(40, 40)), check(t, key, ad, message(41, 40))
	checkRefused(t, "the tag of other bytes", key, ad, append(a[:16:16], b[16:]...))
	tag, _ := aead.Tag(key, ad, message(40, 40))
	checkRefused(t, "plain bytes behind their tag", key, ad, append(tag, message(40, 40)...))
}
