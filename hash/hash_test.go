package hash_test

import (
	"bytes"
	"crypto/sha256"
	"math"
	"strings"
	"testing"

	"sectime/hash"
	"sectime/octets"
)

// message returns size bytes, of which no block is like another one.
func message(size int) []byte {
	b := make([]byte, size)
	for k := range b {
		b[k] = byte(k*7 + k>>6)
	}
	return b
}

// spoil changes all the memory of a list, so that whatever shares it shows.
func spoil(b []byte) {
	b = b[:cap(b)]
	for k := range b {
		b[k] ^= 0xff
	}
}

// standard is Chain with the library's SHA-256.
func standard(b []byte, n int) []byte {
	for range n {
		sum := sha256.Sum256(b)
		b = sum[:16]
	}
	return b
}

func TestSumOfKnownTexts(t *testing.T) {
	for _, c := range []struct{ text, want string }{
		{"", "e3b0c44298fc1c149afbf4c8996fb92427ae41e4649b934ca495991b7852b855"},
		{"abc", "ba7816bf8f01cfea414140de5dae2223b00361a396177a9cb410ff61f20015ad"},
		{"abcdbcdecdefdefgefghfghighijhijkijkljklmklmnlmnomnopnopq", "248d6a61d20638b8e5c026930c3e6039a33ce45964ff2167f6ecedd419db06c1"},
		{strings.Repeat("a", 1000000), "cdc76e5c9914fb9281a1c7e284d73e67f1809a48a497200e046d39ccc7112cd0"},
	} {
		b := []byte(c.text)
		if got := octets.Hex(hash.Sum(b)); got != c.want {
			t.Errorf("Sum of %d bytes is %s, want %s", len(b), got, c.want)
		}
		if got := octets.Hex(hash.Short(b)); got != c.want[:32] {
			t.Errorf("Short of %d bytes is %s, want %s", len(b), got, c.want[:32])
		}
	}
	if got := octets.Hex(hash.Sum(nil)); got != octets.Hex(hash.Sum([]byte{})) {
		t.Errorf("Sum of nil is %s, and not that of an empty list", got)
	}
}

// Every place of the end in a block, over several blocks.
func TestSumOfAllLengths(t *testing.T) {
	for size := range 321 {
		for _, b := range [][]byte{message(size), make([]byte, size), bytes.Repeat([]byte{255}, size)} {
			want := sha256.Sum256(b)
			if got := hash.Sum(b); !bytes.Equal(got, want[:]) {
				t.Errorf("Sum of %d bytes is %x, want %x", size, got, want)
			}
			if got := hash.Short(b); !bytes.Equal(got, want[:16]) {
				t.Errorf("Short of %d bytes is %x, want %x", size, got, want[:16])
			}
		}
	}
}

func TestChain(t *testing.T) {
	for _, b := range [][]byte{nil, {}, {1}, []byte("sixteen bytes ..."), message(200)} {
		for _, n := range []int{0, 1, 2, 3, 15, 100, 65535, 65536} {
			if got, want := hash.Chain(b, n), standard(b, n); !bytes.Equal(got, want) {
				t.Errorf("Chain of %d bytes, %d times, is %x, want %x", len(b), n, got, want)
			}
		}
		for _, n := range []int{-1, -65536, math.MinInt} {
			if got := hash.Chain(b, n); !bytes.Equal(got, b) {
				t.Errorf("Chain of %d bytes, %d times, is %x, want the bytes", len(b), n, got)
			}
		}
		for _, n := range []int{65537, 1 << 40, math.MaxInt} {
			if got, want := hash.Chain(b, n), standard(b, 65536); !bytes.Equal(got, want) {
				t.Errorf("Chain of %d bytes, %d times, is %x, want that of 65536 times, %x", len(b), n, got, want)
			}
		}
	}
}

// Results are new, arguments stay as they are, and nothing is kept from one call to the next.
func TestMemoryOfHashes(t *testing.T) {
	for _, c := range []struct {
		name   string
		result func(b []byte) []byte
	}{
		{"Sum", hash.Sum},
		{"Short", hash.Short},
		{"Chain of none", func(b []byte) []byte { return hash.Chain(b, 0) }},
		{"Chain of less than none", func(b []byte) []byte { return hash.Chain(b, -1) }},
		{"Chain of two", func(b []byte) []byte { return hash.Chain(b, 2) }},
	} {
		for _, size := range []int{0, 16, 63, 64, 130} {
			// The room behind the bytes belongs to somebody else.
			room := message(size + 200)
			b := room[:size]
			got := c.result(b)
			want := bytes.Clone(got)
			spoil(got)
			if !bytes.Equal(room, message(size+200)) {
				t.Errorf("%s of %d bytes shares memory with its argument, or changes it", c.name, size)
			}
			if again := c.result(b); !bytes.Equal(again, want) {
				t.Errorf("%s of %d bytes is %x at first, and then %x", c.name, size, want, again)
			}
		}
	}
}
