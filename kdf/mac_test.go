package kdf_test

import (
	"bytes"
	"crypto/hmac"
	"crypto/sha256"
	"strings"
	"testing"

	"sectime/hash"
	"sectime/kdf"
	"sectime/octets"
)

// message returns size bytes that begin with a given one, of which no block is like another one.
func message(first byte, size int) []byte {
	b := make([]byte, size)
	for k := range b {
		b[k] = first + byte(k*7+k>>6)
	}
	return b
}

// standard is Mac of the library.
func standard(key, b []byte) []byte {
	h := hmac.New(sha256.New, key)
	h.Write(b)
	return h.Sum(nil)
}

// The test cases of RFC 4231, and one of nothing at all.
func TestMacOfKnownTexts(t *testing.T) {
	for _, c := range []struct{ key, text, want string }{
		{strings.Repeat("\x0b", 20), "Hi There", "b0344c61d8db38535ca8afceaf0bf12b881dc200c9833da726e9376c2e32cff7"},
		{"Jefe", "what do ya want for nothing?", "5bdcc146bf60754e6a042426089575c75a003f089d2739839dec58b964ec3843"},
		{strings.Repeat("\xaa", 20), strings.Repeat("\xdd", 50), "773ea91e36800e46854db8ebd09181a72959098b3ef8c122d9635514ced565fe"},
		{"\x01\x02\x03\x04\x05\x06\x07\x08\x09\x0a\x0b\x0c\x0d\x0e\x0f\x10\x11\x12\x13\x14\x15\x16\x17\x18\x19", strings.Repeat("\xcd", 50), "82558a389a443c0ea4cc819899f2083a85f0faa3e578f8077a2e3ff46729665b"},
		{strings.Repeat("\xaa", 131), "Test Using Larger Than Block-Size Key - Hash Key First", "60e431591ee0b67f0d8a26aacbf5b77f8e0bc6213728c5140546040f0ee37f54"},
		{strings.Repeat("\xaa", 131), "This is a test using a larger than block-size key and a larger than block-size data. The key needs to be hashed before being used by the HMAC algorithm.", "9b09ffa71b942fcb27635fbcd5b0e944bfdc63644f0713938a7f51535c3a35e2"},
		{"", "", "b613679a0814d9ec772f95d778c35fc5ff1697c493715653c6c712144292c5ad"},
	} {
		if got := octets.Hex(kdf.Mac([]byte(c.key), []byte(c.text))); got != c.want {
			t.Errorf("Mac with a key of %d bytes of %q is %s, want %s", len(c.key), c.text, got, c.want)
		}
	}
	if got := octets.Hex(kdf.Mac(nil, nil)); got != octets.Hex(kdf.Mac([]byte{}, []byte{})) {
		t.Errorf("Mac of nil with nil is %s, and not that of empty lists", got)
	}
}

// Keys on both sides of a whole block, and every place of the end of the text in a block.
func TestMacOfAllLengths(t *testing.T) {
	for size := range 140 {
		for _, other := range []int{0, 1, 31, 32, 33, 55, 56, 63, 64, 65, 66, 128, 129, 200} {
			for _, c := range []struct{ key, b []byte }{
				{message(3, size), message(90, other)},
				{message(3, other), message(90, size)},
				{make([]byte, size), bytes.Repeat([]byte{255}, other)},
			} {
				if got, want := kdf.Mac(c.key, c.b), standard(c.key, c.b); !bytes.Equal(got, want) {
					t.Errorf("Mac of %d bytes with a key of %d bytes is %x, want %x", len(c.b), len(c.key), got, want)
				}
			}
		}
	}
}

// A key counts with zeros behind it up to 64 bytes, and as its hash only if it is longer.
func TestKeysThatAreTheSame(t *testing.T) {
	b := message(0, 100)
	for size := range 65 {
		key := message(3, size)
		if got, want := kdf.Mac(key, b), kdf.Mac(octets.Join(key, make([]byte, 64-size)), b); !bytes.Equal(got, want) {
			t.Errorf("Mac with a key of %d bytes is %x, and %x with zeros behind the key", size, got, want)
		}
		if got := kdf.Mac(key, b); bytes.Equal(got, kdf.Mac(hash.Sum(key), b)) {
			t.Errorf("Mac with a key of %d bytes is that with its hash, %x", size, got)
		}
	}
	for _, size := range []int{65, 66, 128, 1000} {
		key := message(3, size)
		if got, want := kdf.Mac(key, b), kdf.Mac(hash.Sum(key), b); !bytes.Equal(got, want) {
			t.Errorf("Mac with a key of %d bytes is %x, and %x with its hash", size, got, want)
		}
	}
}
