package cmac_test

import (
	"bytes"
	"crypto/aes"
	"math/big"
	"testing"

	"sectime/api"
	"sectime/cmac"
	"sectime/octets"
)

// twice is Double of a block as a number.
func twice(b []byte) []byte {
	n := new(big.Int).SetBytes(b)
	n.Lsh(n, 1)
	if n.Bit(128) == 1 {
		n.SetBit(n, 128, 0)
		n.Xor(n, big.NewInt(135))
	}
	return n.FillBytes(make([]byte, 16))
}

// patterns returns blocks of which one bit is 1, or one bit is 0, for each of the bits, and others.
func patterns() [][]byte {
	ones := bytes.Repeat([]byte{255}, 16)
	l := [][]byte{make([]byte, 16), ones}
	for k := range 128 {
		one := make([]byte, 16)
		one[k/8] = 1 << (k % 8)
		l = append(l, one, xor(one, ones))
	}
	for k := range 256 {
		l = append(l, message(byte(k), 16), bytes.Repeat([]byte{byte(k)}, 16))
	}
	return l
}

func TestKnownDoubles(t *testing.T) {
	for _, c := range []struct{ b, want string }{
		{"7df76b0c1ab899b33e42f047b91b546f", "fbeed618357133667c85e08f7236a8de"},
		{"fbeed618357133667c85e08f7236a8de", "f7ddac306ae266ccf90bc11ee46d513b"},
		{"00000000000000000000000000000000", "00000000000000000000000000000000"},
		{"00000000000000000000000000000001", "00000000000000000000000000000002"},
		{"00000000000000000000000000000080", "00000000000000000000000000000100"},
		{"40000000000000000000000000000000", "80000000000000000000000000000000"},
		{"80000000000000000000000000000000", "00000000000000000000000000000087"},
		{"80000000000000000000000000000001", "00000000000000000000000000000085"},
		{"7fffffffffffffffffffffffffffffff", "fffffffffffffffffffffffffffffffe"},
		{"ffffffffffffffffffffffffffffffff", "ffffffffffffffffffffffffffffff79"},
	} {
		if got := octets.Hex(cmac.Double(unhex(t, c.b))); got != c.want {
			t.Errorf("Double(%s) = %s, want %s", c.b, got, c.want)
		}
	}
}

func TestDouble(t *testing.T) {
	for _, b := range patterns() {
		if got, want := cmac.Double(b), twice(b); !bytes.Equal(got, want) {
			t.Errorf("Double(%x) = %x, want %x", b, got, want)
		}
	}
}

func TestDoubleOfOtherLengths(t *testing.T) {
	for size := range 70 {
		for _, b := range [][]byte{message(3, size), bytes.Repeat([]byte{255}, size)} {
			if got := cmac.Double(b); size != 16 && len(got) != 0 {
				t.Errorf("Double of %d bytes is %x, want nothing", size, got)
			}
		}
	}
	if got := cmac.Double(nil); len(got) != 0 {
		t.Errorf("Double of nil is %x, want nothing", got)
	}
}

// Keys of all kinds, among which the block and its double both begin with each of the bits.
func TestSubkeys(t *testing.T) {
	seen := map[[2]byte]bool{}
	for _, key := range append(patterns(), unhex(t, "2b7e151628aed2a6abf7158809cf4f3c")) {
		c, err := aes.NewCipher(key)
		if err != nil {
			t.Fatal(err)
		}
		block := make([]byte, 16)
		c.Encrypt(block, block)
		whole := twice(block)
		part := twice(whole)
		seen[[2]byte{block[0] >> 7, whole[0] >> 7}] = true
		if a, b, e := cmac.Subkeys(key); e != api.OK || !bytes.Equal(a, whole) || !bytes.Equal(b, part) {
			t.Errorf("Subkeys(%x) = %x, %x, %v, want %x and %x", key, a, b, e, whole, part)
		}
	}
	if len(seen) != 4 {
		t.Errorf("the keys lead to %d kinds of subkeys, want all 4", len(seen))
	}
}

// The subkeys of RFC 4493.
func TestKnownSubkeys(t *testing.T) {
	a, b, e := cmac.Subkeys(unhex(t, "2b7e151628aed2a6abf7158809cf4f3c"))
	if e != api.OK || octets.Hex(a) != "fbeed618357133667c85e08f7236a8de" || octets.Hex(b) != "f7ddac306ae266ccf90bc11ee46d513b" {
		t.Errorf("Subkeys returns %x, %x and %v", a, b, e)
	}
}
