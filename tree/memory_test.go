package tree_test

import (
	"bytes"
	"slices"
	"testing"

	"sectime/tree"
)

// spoil changes all the memory of a list, so that whatever shares it shows.
func spoil(b []byte) {
	b = b[:cap(b)]
	for k := range b {
		b[k] ^= 0xff
	}
}

func cloned(l [][]byte) [][]byte {
	out := make([][]byte, len(l))
	for k, b := range l {
		out[k] = bytes.Clone(b)
	}
	return out
}

// one makes a list of a single result.
func one(b []byte) [][]byte {
	return [][]byte{b}
}

// Results are new, also within a list, arguments stay as they are, and what lies behind them has no part in the result.
func TestMemory(t *testing.T) {
	for _, c := range []struct {
		name   string
		result func(l [][]byte) [][]byte
	}{
		{"Leaf", func(l [][]byte) [][]byte { return one(tree.Leaf(l[0])) }},
		{"Node", func(l [][]byte) [][]byte { return one(tree.Node(l[0], l[1])) }},
		{"Root of none", func(l [][]byte) [][]byte { b, _ := tree.Root(l[:0]); return one(b) }},
		{"Root of one", func(l [][]byte) [][]byte { b, _ := tree.Root(l[:1]); return one(b) }},
		{"Root", func(l [][]byte) [][]byte { b, _ := tree.Root(l); return one(b) }},
		{"Path", func(l [][]byte) [][]byte { p, _ := tree.Path(l, 4); return p }},
		{"Consistency with a power of 2", func(l [][]byte) [][]byte { p, _ := tree.Consistency(l, 4); return p }},
		{"Consistency", func(l [][]byte) [][]byte { p, _ := tree.Consistency(l, 5); return p }},
		{"Climb from one", func(l [][]byte) [][]byte { b, _ := tree.Climb(1, 0, l[0], l[:0]); return one(b) }},
		{"Climb", func(l [][]byte) [][]byte { b, _ := tree.Climb(7, 4, l[0], l[1:4]); return one(b) }},
		{"Check", func(l [][]byte) [][]byte { tree.Check(l[5], 7, 4, l[0], l[1:4]); return nil }},
		{"CheckGrowth with a power of 2", func(l [][]byte) [][]byte { tree.CheckGrowth(l[5], 4, l[6], 7, l[:1]); return nil }},
		{"CheckGrowth", func(l [][]byte) [][]byte { tree.CheckGrowth(l[5], 5, l[6], 7, l[:4]); return nil }},
	} {
		want := cloned(c.result(slices.Clip(cloned(equalLeaves()))))
		// every leaf is the first part of longer memory, and so is their list
		room := make([][]byte, 0, 10)
		for k := range 10 {
			room = append(room, append(equalLeaves()[k%7], message(70, 60)...))
		}
		l := slices.Clone(room)
		for k, b := range equalLeaves() {
			l[k] = l[k][:len(b)]
		}
		kept, list := cloned(room), slices.Clone(l)
		for range 2 {
			got := c.result(l[:7])
			if !equal(got, want) {
				t.Errorf("%s is %x, want %x", c.name, got, want)
			}
			for k := range got {
				spoil(got[k])
				if !equal(got[k+1:], want[k+1:]) {
					t.Errorf("%s returns hashes that share memory", c.name)
				}
			}
			if !equal(room, kept) || !equal(l, list) {
				t.Errorf("%s shares memory with an argument, or changes it", c.name)
			}
		}
	}
}

// equalLeaves are seven leaves, of which some have equal trees beside each other.
func equalLeaves() [][]byte {
	return [][]byte{message(3, 32), message(3, 32), message(3, 32), message(3, 32), message(5, 20), message(5, 20), {}}
}

// The elements that a caller appends to a result are not seen by another one.
func TestRoomBehindResults(t *testing.T) {
	l := leaves(9)
	a, _ := tree.Path(l, 0)
	b, _ := tree.Path(l, 0)
	a, b = append(a, message(1, 32)), append(b, message(2, 32))
	if !bytes.Equal(a[len(a)-1], message(1, 32)) || !bytes.Equal(b[len(b)-1], message(2, 32)) {
		t.Error("two results of Path share the list's memory")
	}
}

// CheckGrowth leaves what is behind and in the list of hashes, also where the old root stands before them.
func TestMemoryOfGrowth(t *testing.T) {
	for n := 1; n <= 12; n++ {
		l := leaves(n)
		now, _ := tree.Root(l)
		for m := 1; m <= n; m++ {
			old, _ := tree.Root(l[:m])
			path, _ := tree.Consistency(l, m)
			room := append(slices.Clone(path), message(1, 32), message(2, 32))
			kept := cloned(room)
			if !tree.CheckGrowth(old, m, now, n, room[:len(path)]) || !equal(room, kept) {
				t.Errorf("CheckGrowth of %d and %d leaves changes its arguments, or refuses them", m, n)
			}
		}
	}
}
