package tree

import (
	"math/bits"

	"sectime/hash"
)

// half returns how many of n leaves, of which there are at least two, are below the left hash: the greatest power of 2 below n.
func half(n int) int {
	return 1 << (bits.Len(uint(n-1)) - 1)
}

// divided returns the leaves, or whatever stands for them, that are below the left hash, and the others.
func divided[T any](l []T) ([]T, []T) {
	k := half(len(l))
	return l[:k], l[k:]
}

// rootOf is Root of a list within the limit.
func rootOf(leaves [][]byte) []byte {
	switch len(leaves) {
	case 0:
		return hash.Sum(nil)
	case 1:
		return Leaf(leaves[0])
	}
	left, right := divided(leaves)
	return Node(rootOf(left), rootOf(right))
}

// others returns the roots of the halves beside the way up, from below, which begins at the tree of size leaves with leaf i.
func others(leaves [][]byte, i, size int) [][]byte {
	if len(leaves) <= size {
		return nil
	}
	left, right := divided(leaves)
	if i < len(left) {
		return append(others(left, i, size), rootOf(right))
	}
	return append(others(right, i-len(left), size), rootOf(left))
}

// way reports, for a tree of n leaves, which of these halves are left ones.
func way(n, i, size int) []bool {
	if n <= size {
		return nil
	}
	k := half(n)
	if i < k {
		return append(way(k, i, size), false)
	}
	return append(way(n-k, i-k, size), true)
}

// last returns the size of the last tree that m leaves have in common with more leaves.
// These trees have m leaves together, each of them a power of 2, and less than the one before: the last one has the least power in the sum.
func last(m int) int {
	return m & -m
}

// grown returns the roots before and after the growth, from the root of the last common tree up.
func grown(common []byte, path [][]byte, lefts []bool) ([]byte, []byte) {
	before, after := common, common
	for k, other := range path {
		if lefts[k] {
			before, after = Node(other, before), Node(other, after)
		} else {
			// What is to the right of the last common tree was not there before.
			after = Node(after, other)
		}
	}
	return before, after
}
