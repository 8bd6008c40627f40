package tree_test

import (
	"bytes"
	"fmt"
	"math"
	"slices"
	"testing"

	"sectime/api"
	"sectime/tree"
)

// standardPath is Path as the chapter defines it.
func standardPath(l [][]byte, i int) [][]byte {
	if len(l) == 1 {
		return nil
	}
	k := below(len(l))
	if i < k {
		return append(standardPath(l[:k], i), standardRoot(l[k:]))
	}
	return append(standardPath(l[k:], i-k), standardRoot(l[:k]))
}

// standardClimb is Climb for a leaf that there is, from the root down.
func standardClimb(n, i int, leaf []byte, path [][]byte) ([]byte, bool) {
	if n == 1 {
		return leafHash(leaf), len(path) == 0
	}
	if len(path) == 0 {
		return nil, false
	}
	k, top, others := below(n), path[len(path)-1], path[:len(path)-1]
	if i < k {
		b, ok := standardClimb(k, i, leaf, others)
		return nodeHash(b, top), ok
	}
	b, ok := standardClimb(n-k, i-k, leaf, others)
	return nodeHash(top, b), ok
}

// elements returns n elements of different lengths, hashes or not.
func elements(n int) [][]byte {
	l := make([][]byte, n)
	for k := range l {
		l[k] = message(byte(50*k), []int{32, 0, 7, 31, 33, 64, 200}[k%7])
	}
	return l
}

// changed returns l with one bit of one element changed.
func changed(l [][]byte, k, bit int) [][]byte {
	l = slices.Clone(l)
	l[k] = flipped(l[k], bit)
	return l
}

func flipped(b []byte, bit int) []byte {
	b = bytes.Clone(b)
	b[bit/8] ^= 1 << (bit % 8)
	return b
}

// The paths of the reference implementation of Certificate Transparency.
func TestKnownPaths(t *testing.T) {
	for _, c := range []struct {
		n, i int
		want []string
	}{
		{1, 0, nil},
		{8, 0, []string{
			"96a296d224f285c67bee93c30f8a309157f0daa35dc5b87e410b78630a09cfc7",
			"5f083f0a1a33ca076a95279832580db3e0ef4584bdff1f54c8a360f50de3031e",
			"6b47aaf29ee3c2af9af889bc1fb9254dabd31177f16232dd6aab035ca39bf6e4",
		}},
		{8, 5, []string{
			"bc1a0643b12e4d2d7c77918f44e0f4f79a838b6cf9ec5b5c283e1f4d88599e6b",
			"ca854ea128ed050b41b35ffc1b87b8eb2bde461e9e3b5596ece6b9d5975a0ae0",
			"d37ee418976dd95753c1c73862b9398fa2a2cf9b4ff0fdfe8b30cd95209614b7",
		}},
		{3, 2, []string{
			"fac54203e7cc696cf0dfcb42c92a1d9dbaf70ad9e621f4bd8d98662f00e3c125",
		}},
		{5, 1, []string{
			"6e340b9cffb37a989ca544e6bb780a2c78901d3fb33738768511a30617afa01d",
			"5f083f0a1a33ca076a95279832580db3e0ef4584bdff1f54c8a360f50de3031e",
			"bc1a0643b12e4d2d7c77918f44e0f4f79a838b6cf9ec5b5c283e1f4d88599e6b",
		}},
	} {
		if l, e := tree.Path(knownLeaves(t)[:c.n], c.i); e != api.OK || !equal(l, unhex(t, c.want...)) {
			t.Errorf("Path of leaf %d of %d is %x and %v, want %v", c.i, c.n, l, e, c.want)
		}
	}
}

// Path is as defined, Climb leads from it to the root, and Check accepts it.
func TestPath(t *testing.T) {
	for _, n := range sizes() {
		l := leaves(n)
		root := standardRoot(l)
		for _, i := range places(n) {
			path, e := tree.Path(l, i)
			if e != api.OK || !equal(path, standardPath(l, i)) {
				t.Errorf("Path of leaf %d of %d is %x and %v, want %x", i, n, path, e, standardPath(l, i))
			}
			if b, ok := tree.Climb(n, i, l[i], path); !ok || !bytes.Equal(b, root) {
				t.Errorf("Climb from leaf %d of %d is %x and %v, want %x", i, n, b, ok, root)
			}
			if !tree.Check(root, n, i, l[i], path) {
				t.Errorf("Check does not accept the path of leaf %d of %d", i, n)
			}
		}
	}
}

func TestPathOfEqualLeaves(t *testing.T) {
	for n := 1; n <= 20; n++ {
		l := make([][]byte, n)
		for i := range n {
			if path, e := tree.Path(l, i); e != api.OK || !equal(path, standardPath(l, i)) {
				t.Errorf("Path of empty leaf %d of %d is %x and %v", i, n, path, e)
			}
		}
	}
}

func TestErrorsOfPath(t *testing.T) {
	for _, c := range []struct {
		n, i int
		want api.Errno
	}{
		{1025, 0, api.ErrLimit},
		{1025, 1024, api.ErrLimit},
		{1025, 1025, api.ErrLimit},
		{1025, -1, api.ErrLimit},
		{3000, math.MaxInt, api.ErrLimit},
		{0, 0, api.ErrRange},
		{0, -1, api.ErrRange},
		{0, 1, api.ErrRange},
		{1, 1, api.ErrRange},
		{1, -1, api.ErrRange},
		{5, 5, api.ErrRange},
		{5, 8, api.ErrRange},
		{8, 8, api.ErrRange},
		{1024, 1024, api.ErrRange},
		{1024, -1, api.ErrRange},
		{5, math.MaxInt, api.ErrRange},
		{5, math.MinInt, api.ErrRange},
		{1024, math.MinInt, api.ErrRange},
	} {
		if l, e := tree.Path(leaves(c.n), c.i); e != c.want || len(l) != 0 {
			t.Errorf("Path of leaf %d of %d is %x and %v, want nothing and %v", c.i, c.n, l, e, c.want)
		}
	}
	for _, n := range []int{1025, 1026, 2048, 5000} {
		if b, e := tree.Root(leaves(n)); e != api.ErrLimit || len(b) != 0 {
			t.Errorf("Root of %d leaves is %x and %v, want nothing and ErrLimit", n, b, e)
		}
	}
}

// Climb joins whatever elements it is given, if there are as many as Path has, and nothing else.
func TestClimb(t *testing.T) {
	for _, n := range sizes() {
		for _, i := range places(n) {
			for count := range 13 {
				path, leaf := elements(count), message(9, i%50)
				want, ok := standardClimb(n, i, leaf, path)
				if !ok {
					want = nil
				}
				if b, got := tree.Climb(n, i, leaf, path); got != ok || !bytes.Equal(b, want) {
					t.Errorf("Climb from leaf %d of %d with %d elements is %x and %v, want %x and %v", i, n, count, b, got, want, ok)
				}
				if got := tree.Check(want, n, i, leaf, path); got != ok {
					t.Errorf("Check of leaf %d of %d with %d elements is %v, want %v", i, n, count, got, ok)
				}
			}
		}
	}
}

func TestClimbFromNoLeaf(t *testing.T) {
	numbers := []int{math.MinInt, -1024, -2, -1, 0, 1, 2, 3, 5, 8, 1023, 1024, 1025, 1026, 2048, 1 << 32, 1<<32 + 5, math.MaxInt - 1, math.MaxInt}
	for _, n := range numbers {
		for _, i := range numbers {
			if n >= 1 && n <= 1024 && i >= 0 && i < n {
				continue
			}
			for count := range 13 {
				path := elements(count)
				if b, ok := tree.Climb(n, i, nil, path); ok || len(b) != 0 {
					t.Errorf("Climb from leaf %d of %d with %d elements is %x and %v, want nothing and false", i, n, count, b, ok)
				}
				if tree.Check(nil, n, i, nil, path) || tree.Check(leafHash(nil), n, i, nil, path) {
					t.Errorf("Check accepts leaf %d of %d with %d elements", i, n, count)
				}
			}
		}
	}
}

func TestOneLeaf(t *testing.T) {
	for _, path := range [][][]byte{nil, {}} {
		if b, ok := tree.Climb(1, 0, []byte("one"), path); !ok || !bytes.Equal(b, leafHash([]byte("one"))) {
			t.Errorf("Climb from one leaf is %x and %v, want the leaf's hash", b, ok)
		}
	}
	if b, ok := tree.Climb(1, 0, []byte("one"), [][]byte{nil}); ok || len(b) != 0 {
		t.Errorf("Climb from one leaf with an empty element is %x and %v, want nothing and false", b, ok)
	}
}

// Whatever is changed about a path that Check accepts, it accepts no more.
func TestCheckOfChanges(t *testing.T) {
	for n := 1; n <= 20; n++ {
		l := leaves(n)
		root, _ := tree.Root(l)
		for i := range n {
			path, _ := tree.Path(l, i)
			name := fmt.Sprintf("leaf %d of %d", i, n)
			refuse := func(what string, root []byte, i int, leaf []byte, path [][]byte) {
				t.Helper()
				if tree.Check(root, n, i, leaf, path) {
					t.Errorf("Check accepts %s with %s", name, what)
				}
			}
			for bit := 0; bit < 256; bit += 7 { // at least one in each byte
				refuse("another root", flipped(root, bit), i, l[i], path)
				for k := range path {
					refuse("another hash", root, i, l[i], changed(path, k, bit))
				}
			}
			refuse("a part of the root", root[:31], i, l[i], path)
			refuse("a longer root", append(bytes.Clone(root), 0), i, l[i], path)
			refuse("no root", nil, i, l[i], path)
			refuse("more data", root, i, append(bytes.Clone(l[i]), 0), path)
			for other := range n {
				if other != i {
					refuse("the data of another leaf", root, i, l[other], path)
					refuse("another place", root, other, l[i], path)
				}
			}
			refuse("one more hash", root, i, l[i], append(slices.Clone(path), root))
			refuse("one more hash at the beginning", root, i, l[i], append([][]byte{root}, path...))
			for k := range path {
				refuse("one hash less", root, i, l[i], slices.Delete(slices.Clone(path), k, k+1))
				refuse("one hash as no bytes", root, i, l[i], append(append(slices.Clone(path[:k]), nil), path[k+1:]...))
				if k > 0 {
					swapped := slices.Clone(path)
					swapped[k-1], swapped[k] = swapped[k], swapped[k-1]
					refuse("another order", root, i, l[i], swapped)
				}
			}
		}
	}
}
