package hash

import (
	"math/bits"

	"sectime/octets"
)

const (
	wordSize  = 4  // bytes of a word
	blockSize = 64 // bytes of a block
	rounds    = 64 // words that a block is spread to
)

// words are what all blocks so far have made of the first words.
type words [8]uint32

// first are the first 32 bits of the fractional parts of the square roots of the first 8 primes.
var first = words{
	0x6a09e667, 0xbb67ae85, 0x3c6ef372, 0xa54ff53a, 0x510e527f, 0x9b05688c, 0x1f83d9ab, 0x5be0cd19,
}

// roots are the first 32 bits of the fractional parts of the cube roots of the first 64 primes.
var roots = [rounds]uint32{
	0x428a2f98, 0x71374491, 0xb5c0fbcf, 0xe9b5dba5, 0x3956c25b, 0x59f111f1, 0x923f82a4, 0xab1c5ed5,
	0xd807aa98, 0x12835b01, 0x243185be, 0x550c7dc3, 0x72be5d74, 0x80deb1fe, 0x9bdc06a7, 0xc19bf174,
	0xe49b69c1, 0xefbe4786, 0x0fc19dc6, 0x240ca1cc, 0x2de92c6f, 0x4a7484aa, 0x5cb0a9dc, 0x76f988da,
	0x983e5152, 0xa831c66d, 0xb00327c8, 0xbf597fc7, 0xc6e00bf3, 0xd5a79147, 0x06ca6351, 0x14292967,
	0x27b70a85, 0x2e1b2138, 0x4d2c6dfc, 0x53380d13, 0x650a7354, 0x766a0abb, 0x81c2c92e, 0x92722c85,
	0xa2bfe8a1, 0xa81a664b, 0xc24b8b70, 0xc76c51a3, 0xd192e819, 0xd6990624, 0xf40e3585, 0x106aa070,
	0x19a4c116, 0x1e376c08, 0x2748774c, 0x34b0bcb5, 0x391c0cb3, 0x4ed8aa4a, 0x5b9cca4f, 0x682e6ff3,
	0x748f82ee, 0x78a5636f, 0x84c87814, 0x8cc70208, 0x90befffa, 0xa4506ceb, 0xbef9a3f7, 0xc67178f2,
}

// blocks returns the words behind all full blocks of b, and the bytes behind these.
func blocks(s words, b []byte) (words, []byte) {
	for len(b) >= blockSize {
		s = block(s, b[:blockSize])
		b = b[blockSize:]
	}
	return s, b
}

// block returns the words behind a block.
func block(s words, data []byte) words {
	w := spread(data)
	a, b, c, d, e, f, g, h := s[0], s[1], s[2], s[3], s[4], s[5], s[6], s[7]
	for t := range rounds {
		t1 := h + (turn(e, 6) ^ turn(e, 11) ^ turn(e, 25)) + (e&f ^ ^e&g) + roots[t] + w[t]
		t2 := (turn(a, 2) ^ turn(a, 13) ^ turn(a, 22)) + (a&b ^ a&c ^ b&c)
		h, g, f, e, d, c, b, a = g, f, e, d+t1, c, b, a, t1+t2
	}
	for k, x := range (words{a, b, c, d, e, f, g, h}) {
		s[k] += x
	}
	return s
}

// spread returns the words of a block, and those that follow from them.
func spread(data []byte) [rounds]uint32 {
	var w [rounds]uint32
	for t := range blockSize / wordSize {
		w[t] = uint32(octets.Get(data[t*wordSize : (t+1)*wordSize]))
	}
	for t := blockSize / wordSize; t < rounds; t++ {
		x, y := w[t-15], w[t-2]
		s0 := turn(x, 7) ^ turn(x, 18) ^ x>>3
		s1 := turn(y, 17) ^ turn(y, 19) ^ y>>10
		w[t] = s1 + w[t-7] + s0 + w[t-16]
	}
	return w
}

// turn rotates to the right.
func turn(x uint32, n int) uint32 {
	return bits.RotateLeft32(x, -n)
}
