package signer

import (
	"slices"

	"sectime/api"
	"sectime/hash"
	"sectime/octets"
)

const (
	heightSize   = 1 // bytes of a height
	indexSize    = 4 // bytes of an index
	headSize     = heightSize + indexSize
	elementsSize = api.Chains * api.ShortSize // bytes of the one-time signature
)

// head is what a signature begins with.
type head struct{ height, index int }

// signature is a signature by its parts.
type signature struct {
	head
	elements, path [][]byte
}

// first returns the first bytes of a signature.
func (h head) first() []byte {
	return octets.Join(octets.Put(uint64(h.height), heightSize), h.number())
}

// number returns the bytes of the index.
func (h head) number() []byte {
	return octets.Put(uint64(h.index), indexSize)
}

// digest returns what the one-time key with this index signs for a message.
func (h head) digest(public, message []byte) []byte {
	return hash.Short(octets.Join(public, h.number(), message))
}

// bytes returns all bytes of a signature.
func (s signature) bytes() []byte {
	return octets.Join(s.first(), octets.Join(s.elements...), octets.Join(s.path...))
}

// read returns the parts of a signature, if these are the bytes of one.
func read(b []byte) (signature, bool) {
	if len(b) < headSize {
		return signature{}, false
	}
	h := headOf(b)
	if !h.valid() || len(b) != headSize+elementsSize+h.height*api.HashSize {
		return signature{}, false
	}
	rest := b[headSize:]
	return signature{head: h, elements: pieces(rest[:elementsSize], api.ShortSize), path: pieces(rest[elementsSize:], api.HashSize)}, true
}

// headOf returns the head that the first bytes say.
func headOf(b []byte) head {
	return head{height: int(octets.Get(b[:heightSize])), index: int(octets.Get(b[heightSize:headSize]))}
}

// valid reports whether a tree of this height is permitted and has this index.
func (h head) valid() bool {
	return h.height <= api.MaxHeight && h.index < size(h.height)
}

// pieces returns bytes in lists of n each.
func pieces(b []byte, n int) [][]byte {
	return slices.Collect(slices.Chunk(b, n))
}
