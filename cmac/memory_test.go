package cmac_test

import (
	"bytes"
	"testing"

	"sectime/cmac"
)

// spoil changes all the memory of a list, so that whatever shares it shows.
func spoil(b []byte) {
	b = b[:cap(b)]
	for k := range b {
		b[k] ^= 0xff
	}
}

// Results are new, arguments stay as they are, and what lies behind an argument has no part in the result.
func TestMemory(t *testing.T) {
	const room = 200
	first := func(key, _, _ []byte) []byte { b, _, _ := cmac.Subkeys(key); return b }
	second := func(key, _, _ []byte) []byte { _, b, _ := cmac.Subkeys(key); return b }
	code := func(key, _, b []byte) []byte { b, _ = cmac.Cmac(key, b); return b }
	vector := func(key, other, b []byte) []byte { b, _ = cmac.Vector(key, [][]byte{other, b}); return b }
	for _, c := range []struct {
		name   string
		size   int
		result func(key, other, b []byte) []byte
	}{
		{"Double", 16, func(_, _, b []byte) []byte { return cmac.Double(b) }},
		{"the first subkey", 0, first},
		{"the second subkey", 0, second},
		{"Cmac of nothing", 0, code},
		{"Cmac of a part of a block", 9, code},
		{"Cmac of a block", 16, code},
		{"Cmac of blocks", 48, code},
		{"Cmac of blocks and a part", 50, code},
		{"Vector of an empty last element", 0, vector},
		{"Vector of a short last element", 9, vector},
		{"Vector of a last element of a block", 16, vector},
		{"Vector of a long last element", 50, vector},
	} {
		want := bytes.Clone(c.result(message(3, 16), message(120, 40), message(90, c.size)))
		key, other, b := message(3, room), message(120, room), message(90, room)
		for range 2 {
			got := c.result(key[:16], other[:40], b[:c.size])
			if !bytes.Equal(got, want) {
				t.Errorf("%s is %x, want %x", c.name, got, want)
			}
			spoil(got)
			if !bytes.Equal(key, message(3, room)) || !bytes.Equal(other, message(120, room)) || !bytes.Equal(b, message(90, room)) {
				t.Errorf("%s shares memory with an argument, or changes it", c.name)
			}
		}
	}
}

func TestMemoryOfSubkeys(t *testing.T) {
	key := message(3, 16)
	a, b, _ := cmac.Subkeys(key)
	want := bytes.Clone(b)
	spoil(a)
	if !bytes.Equal(b, want) {
		t.Errorf("the subkeys share memory: the second one is %x, want %x", b, want)
	}
}

// One list may stand in several places, the key's among them.
func TestSharedArguments(t *testing.T) {
	key := message(3, 16)
	checkVector(t, key, [][]byte{key, key, key})
	if !bytes.Equal(key, message(3, 16)) {
		t.Errorf("Vector changes its key to %x", key)
	}
}
