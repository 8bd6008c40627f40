package signer_test

import (
	"bytes"
	"crypto/sha256"
	"encoding/binary"
)

// sum is the library's hash of lists behind each other.
func sum(l ...[]byte) []byte {
	h := sha256.Sum256(bytes.Join(l, nil))
	return h[:]
}

func short(l ...[]byte) []byte {
	return sum(l...)[:16]
}

// along returns what lies n steps behind b.
func along(b []byte, n int) []byte {
	for range n {
		b = short(b)
	}
	return b
}

// four returns a number in 4 bytes.
func four(n int) []byte {
	return binary.BigEndian.AppendUint32(nil, uint32(n))
}

// digitsOf returns the digits that the chains of a digest stand at.
func digitsOf(digest []byte) []int {
	var l []int
	rest := 0
	for _, x := range digest {
		l = append(l, int(x/16), int(x%16))
		rest += 30 - int(x/16) - int(x%16)
	}
	return append(l, rest/256, rest/16%16, rest%16)
}

// standardElements are those of the one-time signature of a digest.
func standardElements(seed []byte, index int, digest []byte) [][]byte {
	var l [][]byte
	for chain, d := range digitsOf(digest) {
		l = append(l, along(short(seed, four(index), []byte{byte(chain)}), d))
	}
	return l
}

// standardKey is the public key of a one-time key.
func standardKey(seed []byte, index int) []byte {
	var ends [][]byte
	for chain := range 35 {
		ends = append(ends, along(short(seed, four(index), []byte{byte(chain)}), 15))
	}
	return short(ends...)
}

// levels returns the hashes of a tree level by level, from the leaves up to the root alone.
func levels(seed []byte, height int) [][][]byte {
	var level [][]byte
	for index := range 1 << height {
		level = append(level, sum([]byte{0}, standardKey(seed, index)))
	}
	l := [][][]byte{level}
	for range height {
		var above [][]byte
		for k := 0; k < len(level); k += 2 {
			above = append(above, sum([]byte{1}, level[k], level[k+1]))
		}
		level = above
		l = append(l, level)
	}
	return l
}

// standardPublic is Public as the chapter defines it, also for heights that are too great.
func standardPublic(seed []byte, height int) []byte {
	return levels(seed, height)[height][0]
}

// standardPath are the hashes beside the way from a leaf to the root.
func standardPath(tree [][][]byte, index int) [][]byte {
	var l [][]byte
	for k, level := range tree[:len(tree)-1] {
		l = append(l, level[index>>k^1])
	}
	return l
}

// standardSign is a signature as the chapter defines it, also of messages that are too long.
func standardSign(seed []byte, height, index int, message []byte) []byte {
	tree := levels(seed, height)
	digest := short(tree[height][0], four(index), message)
	return bytes.Join([][]byte{
		{byte(height)},
		four(index),
		bytes.Join(standardElements(seed, index, digest), nil),
		bytes.Join(standardPath(tree, index), nil),
	}, nil)
}

// some returns size bytes that depend on first.
func some(first byte, size int) []byte {
	b := make([]byte, size)
	for k := range b {
		b[k] = first + byte(k*7+k>>6)
	}
	return b
}

// count returns the bytes from 0 on.
func count(size int) []byte {
	b := make([]byte, size)
	for k := range b {
		b[k] = byte(k)
	}
	return b
}

func seeds() [][]byte {
	return [][]byte{make([]byte, 32), count(32), bytes.Repeat([]byte{0xff}, 32), some(90, 32)}
}
