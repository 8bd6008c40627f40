// Package octets is layer 1: it puts numbers and fields into bytes, and gets them out again.
package octets

import "bytes"

const (
	numberSize = 8  // bytes of a number
	maxPut     = 64 // bytes that Put returns
	maxUnit    = 64 // bytes to a multiple of which Pad pads
)

// Put returns the last n bytes of v, with zeros before them if n is above 8.
func Put(v uint64, n int) []byte {
	if n < 0 || n > maxPut {
		return nil
	}
	b := make([]byte, n)
	for k := n - 1; k >= 0; k-- {
		b[k] = byte(v)
		v >>= 8
	}
	return b
}

// Get returns the number in the last 8 bytes of b, or in all of them if there are fewer.
func Get(b []byte) uint64 {
	if len(b) > numberSize {
		b = b[len(b)-numberSize:]
	}
	v := uint64(0)
	for _, x := range b {
		v = v<<8 | uint64(x)
	}
	return v
}

// Join returns the lists behind each other.
func Join(l ...[]byte) []byte {
	size := 0
	for _, b := range l {
		size += len(b)
	}
	joined := make([]byte, 0, size)
	for _, b := range l {
		joined = append(joined, b...)
	}
	return joined
}

// Same reports whether two lists have the same bytes.
func Same(a, b []byte) bool {
	return bytes.Equal(a, b)
}

// Cut returns the first n bytes of b and the others.
func Cut(b []byte, n int) ([]byte, []byte, bool) {
	if n < 0 || n > len(b) {
		return nil, nil, false
	}
	return Join(b[:n]), Join(b[n:]), true
}

// Pad returns b with zeros behind it, up to a multiple of n bytes.
func Pad(b []byte, n int) []byte {
	if n < 1 || n > maxUnit {
		return Join(b)
	}
	// A whole unit is never added: bytes that fill their last unit stay as they are.
	missing := (n - len(b)%n) % n
	return Join(b, Put(0, missing))
}
