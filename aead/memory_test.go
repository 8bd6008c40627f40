package aead_test

import (
	"bytes"
	"slices"
	"testing"

	"sectime/aead"
	"sectime/api"
)

// spoil changes all the memory of a list, so that whatever shares it shows.
func spoil(b []byte) {
	b = b[:cap(b)]
	for k := range b {
		b[k] ^= 0xff
	}
}

// Results are new, arguments stay as they are, and what lies behind an argument has no part in the result.
func TestMemory(t *testing.T) {
	seal := func(key []byte, ad [][]byte, b []byte) []byte { b, _ = aead.Seal(key, ad, b); return b }
	tag := func(key []byte, ad [][]byte, b []byte) []byte { b, _ = aead.Tag(key, ad, b); return b }
	open := func(key []byte, ad [][]byte, b []byte) []byte { b, _ = aead.Open(key, ad, b); return b }
	for _, size := range []int{0, 1, 16, 50} {
		plain := message(90, size)
		sealed := check(t, message(3, 32), [][]byte{message(5, 20), message(6, 3)}, plain)
		for _, c := range []struct {
			name    string
			result  func(key []byte, ad [][]byte, b []byte) []byte
			b, want []byte
		}{
			{"Seal", seal, plain, sealed},
			{"Tag", tag, plain, sealed[:16:16]},
			{"Open", open, sealed, plain},
		} {
			// every argument is the first part of longer memory
			key, one, other, b := message(3, 100), message(5, 100), message(6, 100), append(bytes.Clone(c.b), message(70, 100)...)
			ad := [][]byte{one[:20], other[:3], other, one}
			kept := [][]byte{bytes.Clone(key), bytes.Clone(one), bytes.Clone(other), bytes.Clone(b)}
			for range 2 {
				got := c.result(key[:32], ad[:2], b[:len(c.b)])
				if !bytes.Equal(got, c.want) {
					t.Errorf("%s of %d bytes is %x, want %x", c.name, len(c.b), got, c.want)
				}
				spoil(got)
				if !slices.EqualFunc(kept, [][]byte{key, one, other, b}, bytes.Equal) {
					t.Errorf("%s of %d bytes shares memory with an argument, or changes it", c.name, len(c.b))
				}
				if !slices.EqualFunc(ad, [][]byte{one[:20], other[:3], other, one}, bytes.Equal) {
					t.Errorf("%s of %d bytes changes the list of the data, or what is behind it", c.name, len(c.b))
				}
			}
		}
	}
}

// Bytes that are refused stay as they are.
func TestMemoryOfRefusedBytes(t *testing.T) {
	key, ad := message(3, 32), [][]byte{message(5, 20)}
	bad := message(60, 60)
	if _, e := aead.Open(key, ad, bad); e != api.ErrAuth {
		t.Errorf("Open returns %v, want ErrAuth", e)
	}
	if !bytes.Equal(bad, message(60, 60)) || !bytes.Equal(key, message(3, 32)) || !bytes.Equal(ad[0], message(5, 20)) {
		t.Error("Open of bytes that it refuses changes an argument")
	}
}

// One list may stand in several places.
func TestSharedArguments(t *testing.T) {
	key := message(3, 32)
	check(t, key, [][]byte{key, key[16:], key}, key)
	if !bytes.Equal(key, message(3, 32)) {
		t.Errorf("the key is changed to %x", key)
	}
}
