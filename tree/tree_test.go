package tree_test

import (
	"bytes"
	"crypto/sha256"
	"slices"
	"testing"

	"sectime/api"
	"sectime/octets"
	"sectime/tree"
)

// message returns size bytes that depend on first.
func message(first byte, size int) []byte {
	b := make([]byte, size)
	for k := range b {
		b[k] = first + byte(k*7+k>>6)
	}
	return b
}

// leaves returns n leaves of many lengths, all different, the first one of no bytes.
func leaves(n int) [][]byte {
	l := make([][]byte, n)
	for i := 1; i < n; i++ {
		l[i] = append(octets.Put(uint64(i), 2), message(byte(i), i%70)...)
	}
	return l
}

// oneByteLeaves returns n leaves of one byte each.
func oneByteLeaves(n int) [][]byte {
	l := make([][]byte, n)
	for i := range l {
		l[i] = []byte{byte(i)}
	}
	return l
}

// knownLeaves are those of the reference implementation of Certificate Transparency.
func knownLeaves(t *testing.T) [][]byte {
	t.Helper()
	return unhex(t, "", "00", "10", "2021", "3031", "40414243", "5051525354555657", "606162636465666768696a6b6c6d6e6f")
}

func unhex(t *testing.T, texts ...string) [][]byte {
	t.Helper()
	var l [][]byte
	for _, s := range texts {
		b, ok := octets.Unhex(s)
		if !ok {
			t.Fatalf("%s is not hexadecimal", s)
		}
		l = append(l, b)
	}
	return l
}

// sum is the library's hash of lists behind each other.
func sum(l ...[]byte) []byte {
	h := sha256.Sum256(bytes.Join(l, nil))
	return h[:]
}

func leafHash(b []byte) []byte    { return sum([]byte{0}, b) }
func nodeHash(l, r []byte) []byte { return sum([]byte{1}, l, r) }

// below is the greatest power of 2 below n.
func below(n int) int {
	k := 1
	for 2*k < n {
		k *= 2
	}
	return k
}

// standardRoot is Root as the chapter defines it.
func standardRoot(l [][]byte) []byte {
	if len(l) == 0 {
		return sum()
	}
	if len(l) == 1 {
		return leafHash(l[0])
	}
	k := below(len(l))
	return nodeHash(standardRoot(l[:k]), standardRoot(l[k:]))
}

func equal(a, b [][]byte) bool {
	return slices.EqualFunc(a, b, bytes.Equal)
}

// sizes are those of the smaller trees, and of greater ones around powers of 2.
func sizes() []int {
	var l []int
	for n := 1; n <= 40; n++ {
		l = append(l, n)
	}
	return append(l, 63, 64, 65, 100, 127, 128, 129, 255, 256, 257, 511, 512, 513, 600, 768, 769, 1000, 1022, 1023, 1024)
}

// places are the smaller numbers below n, and greater ones of all kinds.
func places(n int) []int {
	var l []int
	for i := range n {
		if i < 40 || i > n-3 || i%97 == 0 || i&(i+1) == 0 || i&(i-1) == 0 {
			l = append(l, i)
		}
	}
	return l
}

func TestLeafAndNode(t *testing.T) {
	for _, size := range []int{0, 1, 31, 32, 33, 54, 55, 56, 62, 63, 64, 65, 127, 128, 1000, 70000} {
		b, c := message(3, size), message(90, 32)
		if got, want := tree.Leaf(b), leafHash(b); !bytes.Equal(got, want) {
			t.Errorf("Leaf of %d bytes is %x, want %x", size, got, want)
		}
		if got, want := tree.Node(b, c), nodeHash(b, c); !bytes.Equal(got, want) {
			t.Errorf("Node of %d bytes and 32 is %x, want %x", size, got, want)
		}
		if got, want := tree.Node(c, b), nodeHash(c, b); !bytes.Equal(got, want) {
			t.Errorf("Node of 32 bytes and %d is %x, want %x", size, got, want)
		}
	}
	if got, want := octets.Hex(tree.Leaf(nil)), "6e340b9cffb37a989ca544e6bb780a2c78901d3fb33738768511a30617afa01d"; got != want {
		t.Errorf("Leaf of nothing is %s, want %s", got, want)
	}
	if got, want := tree.Node(nil, nil), sum([]byte{1}); !bytes.Equal(got, want) {
		t.Errorf("Node of nothing is %x, want %x", got, want)
	}
}

// What two hashes give as a node is another hash than they give as a leaf's data.
func TestLeavesAreNoNodes(t *testing.T) {
	l, r := tree.Leaf([]byte{1}), tree.Leaf([]byte{2})
	node := tree.Node(l, r)
	for _, data := range [][]byte{append(bytes.Clone(l), r...), bytes.Join([][]byte{{1}, l, r}, nil)} {
		if bytes.Equal(tree.Leaf(data), node) {
			t.Errorf("the leaf %x has the hash of a node", data)
		}
	}
}

func TestKnownRoots(t *testing.T) {
	for n, want := range []string{
		"e3b0c44298fc1c149afbf4c8996fb92427ae41e4649b934ca495991b7852b855",
		"6e340b9cffb37a989ca544e6bb780a2c78901d3fb33738768511a30617afa01d",
		"fac54203e7cc696cf0dfcb42c92a1d9dbaf70ad9e621f4bd8d98662f00e3c125",
		"aeb6bcfe274b70a14fb067a5e5578264db0fa9b51af5e0ba159158f329e06e77",
		"d37ee418976dd95753c1c73862b9398fa2a2cf9b4ff0fdfe8b30cd95209614b7",
		"4e3bbb1f7b478dcfe71fb631631519a3bca12c9aefca1612bfce4c13a86264d4",
		"76e67dadbcdf1e10e1b74ddc608abd2f98dfb16fbce75277b5232a127f2087ef",
		"ddb89be403809e325750d3d263cd78929c2942b7942a34b77e122c9594a74c8c",
		"5dc9da79a70659a9ad559cb701ded9a2ab9d823aad2f4960cfe370eff4604328",
	} {
		if b, e := tree.Root(knownLeaves(t)[:n]); e != api.OK || octets.Hex(b) != want {
			t.Errorf("Root of %d leaves is %x and %v, want %s", n, b, e, want)
		}
	}
}

func TestRoot(t *testing.T) {
	for _, n := range append(sizes(), 0) {
		for _, l := range [][][]byte{leaves(n), oneByteLeaves(n), make([][]byte, n)} {
			if b, e := tree.Root(l); e != api.OK || !bytes.Equal(b, standardRoot(l)) {
				t.Errorf("Root of %d leaves is %x and %v, want %x", n, b, e, standardRoot(l))
			}
		}
	}
	if b, e := tree.Root([][]byte{}); e != api.OK || !bytes.Equal(b, sum()) {
		t.Errorf("Root of an empty list is %x and %v, want %x", b, e, sum())
	}
}

func TestLongLeaves(t *testing.T) {
	l := [][]byte{message(1, 100000), nil, message(2, 65536), message(3, 65535), {}}
	if b, e := tree.Root(l); e != api.OK || !bytes.Equal(b, standardRoot(l)) {
		t.Errorf("Root of long leaves is %x and %v, want %x", b, e, standardRoot(l))
	}
	for i := range l {
		path, _ := tree.Path(l, i)
		if !tree.Check(standardRoot(l), len(l), i, l[i], path) {
			t.Errorf("Check does not accept the path of leaf %d of %d bytes", i, len(l[i]))
		}
	}
}
