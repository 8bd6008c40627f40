package tree_test

import (
	"bytes"
	"fmt"
	"math"
	"slices"
	"testing"

	"sectime/api"
	"sectime/tree"
)

// standardProof is SUBPROOF of RFC 6962.
func standardProof(l [][]byte, m int, whole bool) [][]byte {
	if m == len(l) && whole {
		return nil
	}
	if m == len(l) {
		return [][]byte{standardRoot(l)}
	}
	k := below(len(l))
	if m <= k {
		return append(standardProof(l[:k], m, whole), standardRoot(l[k:]))
	}
	return append(standardProof(l[k:], m-k, false), standardRoot(l[:k]))
}

// standardGrowth returns the roots that follow from the elements of a SUBPROOF, from the root down; old stands for the one that it leaves out.
func standardGrowth(old []byte, n, m int, whole bool, path [][]byte) ([]byte, []byte, bool) {
	if m == n && whole {
		return old, old, len(path) == 0
	}
	if len(path) == 0 {
		return nil, nil, false
	}
	top, others := path[len(path)-1], path[:len(path)-1]
	if m == n {
		return top, top, len(others) == 0
	}
	k := below(n)
	if m <= k {
		before, after, ok := standardGrowth(old, k, m, whole, others)
		return before, nodeHash(after, top), ok
	}
	before, after, ok := standardGrowth(old, n-k, m-k, false, others)
	return nodeHash(top, before), nodeHash(top, after), ok
}

// The proofs of the reference implementation of Certificate Transparency.
func TestKnownConsistency(t *testing.T) {
	for _, c := range []struct {
		n, m int
		want []string
	}{
		{1, 1, nil},
		{8, 1, []string{
			"96a296d224f285c67bee93c30f8a309157f0daa35dc5b87e410b78630a09cfc7",
			"5f083f0a1a33ca076a95279832580db3e0ef4584bdff1f54c8a360f50de3031e",
			"6b47aaf29ee3c2af9af889bc1fb9254dabd31177f16232dd6aab035ca39bf6e4",
		}},
		{8, 6, []string{
			"0ebc5d3437fbe2db158b9f126a1d118e308181031d0a949f8dededebc558ef6a",
			"ca854ea128ed050b41b35ffc1b87b8eb2bde461e9e3b5596ece6b9d5975a0ae0",
			"d37ee418976dd95753c1c73862b9398fa2a2cf9b4ff0fdfe8b30cd95209614b7",
		}},
		{5, 2, []string{
			"5f083f0a1a33ca076a95279832580db3e0ef4584bdff1f54c8a360f50de3031e",
			"bc1a0643b12e4d2d7c77918f44e0f4f79a838b6cf9ec5b5c283e1f4d88599e6b",
		}},
	} {
		if l, e := tree.Consistency(knownLeaves(t)[:c.n], c.m); e != api.OK || !equal(l, unhex(t, c.want...)) {
			t.Errorf("Consistency of %d and %d leaves is %x and %v, want %v", c.m, c.n, l, e, c.want)
		}
	}
}

// Consistency is as defined, and CheckGrowth accepts it.
func TestConsistency(t *testing.T) {
	for _, n := range sizes() {
		l := leaves(n)
		now := standardRoot(l)
		for _, i := range places(n) {
			m := i + 1
			path, e := tree.Consistency(l, m)
			if e != api.OK || !equal(path, standardProof(l, m, true)) {
				t.Errorf("Consistency of %d and %d leaves is %x and %v, want %x", m, n, path, e, standardProof(l, m, true))
			}
			if !tree.CheckGrowth(standardRoot(l[:m]), m, now, n, path) {
				t.Errorf("CheckGrowth does not accept Consistency of %d and %d leaves", m, n)
			}
		}
	}
}

func TestErrorsOfConsistency(t *testing.T) {
	for _, c := range []struct {
		n, m int
		want api.Errno
	}{
		{1025, 0, api.ErrLimit},
		{1025, 1, api.ErrLimit},
		{1025, 1025, api.ErrLimit},
		{1025, 1026, api.ErrLimit},
		{1025, -1, api.ErrLimit},
		{3000, 512, api.ErrLimit},
		{0, 0, api.ErrRange},
		{0, 1, api.ErrRange},
		{1, 0, api.ErrRange},
		{1, 2, api.ErrRange},
		{1, -1, api.ErrRange},
		{5, 0, api.ErrRange},
		{5, 6, api.ErrRange},
		{5, 8, api.ErrRange},
		{8, -4, api.ErrRange},
		{1024, 0, api.ErrRange},
		{1024, 1025, api.ErrRange},
		{5, math.MaxInt, api.ErrRange},
		{5, math.MinInt, api.ErrRange},
	} {
		if l, e := tree.Consistency(leaves(c.n), c.m); e != c.want || len(l) != 0 {
			t.Errorf("Consistency of %d and %d leaves is %x and %v, want nothing and %v", c.m, c.n, l, e, c.want)
		}
	}
}

// CheckGrowth accepts the roots that follow from any elements, if there are as many as Consistency has, and nothing else.
func TestGrowthOfAnyElements(t *testing.T) {
	for _, n := range sizes() {
		for _, i := range places(n) {
			m := i + 1
			for _, old := range [][]byte{message(77, 32), message(78, 5), nil} {
				for count := range 13 {
					path := elements(count)
					before, after, ok := standardGrowth(old, n, m, true, path)
					if !ok {
						before, after = old, old
					}
					if got := tree.CheckGrowth(before, m, after, n, path); got != ok {
						t.Errorf("CheckGrowth of %d and %d leaves with %d elements is %v, want %v", m, n, count, got, ok)
					}
					if ok && tree.CheckGrowth(append(bytes.Clone(before), 0), m, after, n, path) {
						t.Errorf("CheckGrowth of %d and %d leaves accepts a longer old root", m, n)
					}
					if tree.CheckGrowth(before, m, append(bytes.Clone(after), 0), n, path) {
						t.Errorf("CheckGrowth of %d and %d leaves accepts a longer new root", m, n)
					}
				}
			}
		}
	}
}

func TestGrowthOfNumbersOutOfRange(t *testing.T) {
	numbers := []int{math.MinInt, -1024, -2, -1, 0, 1, 2, 3, 4, 5, 8, 1023, 1024, 1025, 1026, 2048, 1 << 32, 1<<32 + 4, math.MaxInt - 1, math.MaxInt}
	a, b := message(3, 32), message(4, 32)
	for _, m := range numbers {
		for _, n := range numbers {
			if m >= 1 && m <= n && n <= 1024 {
				continue
			}
			for count := range 13 {
				path := elements(count)
				if tree.CheckGrowth(a, m, a, n, path) || tree.CheckGrowth(a, m, b, n, path) || tree.CheckGrowth(nil, m, nil, n, path) {
					t.Errorf("CheckGrowth accepts %d and %d leaves with %d elements", m, n, count)
				}
			}
		}
	}
}

// A tree that did not grow has one root, and no elements.
func TestNoGrowth(t *testing.T) {
	for _, n := range []int{1, 2, 3, 4, 7, 8, 1023, 1024} {
		for _, b := range [][]byte{nil, {}, {1}, message(3, 32), message(3, 33)} {
			if !tree.CheckGrowth(b, n, bytes.Clone(b), n, nil) || !tree.CheckGrowth(b, n, b, n, [][]byte{}) {
				t.Errorf("CheckGrowth does not accept %x as both roots of %d leaves", b, n)
			}
			if tree.CheckGrowth(b, n, append(bytes.Clone(b), 1), n, nil) || tree.CheckGrowth(append(bytes.Clone(b), 1), n, b, n, nil) {
				t.Errorf("CheckGrowth accepts two roots of %d leaves", n)
			}
			if tree.CheckGrowth(b, n, b, n, [][]byte{b}) || tree.CheckGrowth(b, n, b, n, [][]byte{nil}) {
				t.Errorf("CheckGrowth accepts an element for the growth of %d leaves to %d", n, n)
			}
		}
	}
}

// Whatever is changed about a growth that CheckGrowth accepts, it accepts no more.
func TestGrowthOfChanges(t *testing.T) {
	for n := 1; n <= 20; n++ {
		l := leaves(n)
		now, _ := tree.Root(l)
		for m := 1; m <= n; m++ {
			old, _ := tree.Root(l[:m])
			path, _ := tree.Consistency(l, m)
			name := fmt.Sprintf("%d and %d leaves", m, n)
			refuse := func(what string, old, now []byte, path [][]byte) {
				t.Helper()
				if tree.CheckGrowth(old, m, now, n, path) {
					t.Errorf("CheckGrowth accepts %s with %s", name, what)
				}
			}
			for bit := 0; bit < 256; bit += 7 { // at least one in each byte
				refuse("another old root", flipped(old, bit), now, path)
				refuse("another new root", old, flipped(now, bit), path)
				for k := range path {
					refuse("another hash", old, now, changed(path, k, bit))
				}
			}
			refuse("a part of the old root", old[:31], now, path)
			refuse("a part of the new root", old, now[:31], path)
			refuse("no old root", nil, now, path)
			refuse("no new root", old, nil, path)
			if m < n {
				refuse("the roots exchanged", now, old, path)
				refuse("the old root twice", old, old, path)
				refuse("the new root twice", now, now, path)
			}
			refuse("one more hash", old, now, append(slices.Clone(path), now))
			// the element that Consistency leaves out where it is the old root
			refuse("the old root before the hashes", old, now, append([][]byte{old}, path...))
			for k := range path {
				refuse("one hash less", old, now, slices.Delete(slices.Clone(path), k, k+1))
				if k > 0 {
					swapped := slices.Clone(path)
					swapped[k-1], swapped[k] = swapped[k], swapped[k-1]
					refuse("another order", old, now, swapped)
				}
			}
		}
	}
}

// A tree whose beginning was changed did not grow from the one before.
func TestGrowthOfChangedLeaves(t *testing.T) {
	for n := 1; n <= 20; n++ {
		for m := 1; m <= n; m++ {
			old, _ := tree.Root(leaves(m))
			for i := range m {
				l := leaves(n)
				l[i] = []byte("another leaf")
				now, _ := tree.Root(l)
				path, _ := tree.Consistency(l, m)
				honest, _ := tree.Consistency(leaves(n), m)
				if tree.CheckGrowth(old, m, now, n, path) || tree.CheckGrowth(old, m, now, n, honest) {
					t.Errorf("CheckGrowth accepts %d and %d leaves although leaf %d was changed", m, n, i)
				}
			}
		}
	}
}
