package cipher_test

import (
	"math/bits"
	"testing"

	"sectime/cipher"
)

// product multiplies two polynomials, and then divides by that of AES.
func product(x, y byte) byte {
	p := 0
	for i := range 8 {
		if y>>i&1 == 1 {
			p ^= int(x) << i
		}
	}
	for i := 14; i >= 8; i-- {
		if p>>i&1 == 1 {
			p ^= 0x11b << (i - 8)
		}
	}
	return byte(p)
}

// replacement looks for the inverse of a byte, and combines its rotations.
func replacement(x byte) byte {
	y := byte(0)
	for c := range 256 {
		if product(x, byte(c)) == 1 {
			y = byte(c)
		}
	}
	sub := y ^ 99
	for n := 1; n <= 4; n++ {
		sub ^= bits.RotateLeft8(y, n)
	}
	return sub
}

// The products of FIPS 197, and those at the bounds.
func TestKnownProducts(t *testing.T) {
	for _, c := range []struct{ x, y, want byte }{
		{0x57, 0x83, 0xc1}, {0x57, 0x13, 0xfe},
		{0x57, 0x01, 0x57}, {0x57, 0x02, 0xae}, {0x57, 0x04, 0x47}, {0x57, 0x08, 0x8e}, {0x57, 0x10, 0x07},
		{0x57, 0x20, 0x0e}, {0x57, 0x40, 0x1c}, {0x57, 0x80, 0x38},
		{0x53, 0xca, 1}, {2, 0x80, 0x1b}, {2, 0x7f, 0xfe}, {3, 3, 5}, {0x80, 0x80, 0x9a}, {0xff, 0xff, 0x13},
		{0, 0, 0}, {0, 0xff, 0}, {0xff, 0, 0}, {1, 0xff, 0xff}, {1, 1, 1},
	} {
		if got := cipher.Times(c.x, c.y); got != c.want {
			t.Errorf("Times(%#x, %#x) = %#x, want %#x", c.x, c.y, got, c.want)
		}
	}
}

func TestAllProducts(t *testing.T) {
	for x := range 256 {
		for y := range 256 {
			if got, want := cipher.Times(byte(x), byte(y)), product(byte(x), byte(y)); got != want {
				t.Errorf("Times(%#x, %#x) = %#x, want %#x", x, y, got, want)
			}
		}
	}
}

func TestSub(t *testing.T) {
	for _, c := range []struct{ x, want byte }{
		{0, 0x63}, {1, 0x7c}, {2, 0x77}, {0x10, 0xca}, {0x52, 0}, {0x53, 0xed}, {0x80, 0xcd}, {0xfe, 0xbb}, {0xff, 0x16},
	} {
		if got := cipher.Sub(c.x); got != c.want {
			t.Errorf("Sub(%#x) = %#x, want %#x", c.x, got, c.want)
		}
	}
	for x := range 256 {
		if got, want := cipher.Sub(byte(x)), replacement(byte(x)); got != want {
			t.Errorf("Sub(%#x) = %#x, want %#x", x, got, want)
		}
	}
}
