package cipher_test

import (
	"bytes"
	"testing"

	"sectime/cipher"
	"sectime/octets"
)

// spoil changes all the memory of a list, so that whatever shares it shows.
func spoil(b []byte) {
	b = b[:cap(b)]
	for k := range b {
		b[k] ^= 0xff
	}
}

// Results are new, arguments stay as they are, and what lies behind an argument has no part in the result.
func TestMemory(t *testing.T) {
	const room = 200
	for _, c := range []struct {
		name   string
		size   int
		result func(key, counter, b []byte) []byte
	}{
		{"Keys", 16, func(key, _, _ []byte) []byte { l, _ := cipher.Keys(key); return l[0] }},
		{"Block", 16, func(key, _, b []byte) []byte { b, _ = cipher.Block(key, b); return b }},
		{"Next", 16, func(_, counter, _ []byte) []byte { return cipher.Next(counter) }},
		{"Stream of nothing", 0, func(key, counter, b []byte) []byte { b, _ = cipher.Stream(key, counter, b); return b }},
		{"Stream of a part of a block", 9, func(key, counter, b []byte) []byte { b, _ = cipher.Stream(key, counter, b); return b }},
		{"Stream of blocks", 50, func(key, counter, b []byte) []byte { b, _ = cipher.Stream(key, counter, b); return b }},
	} {
		want := bytes.Clone(c.result(message(3, 16), message(40, 16), message(90, c.size)))
		key, counter, b := message(3, room), message(40, room), message(90, room)
		for range 2 {
			got := c.result(key[:16], counter[:16], b[:c.size])
			if !bytes.Equal(got, want) {
				t.Errorf("%s is %x, want %x", c.name, got, want)
			}
			spoil(got)
			if !bytes.Equal(key, message(3, room)) || !bytes.Equal(counter, message(40, room)) || !bytes.Equal(b, message(90, room)) {
				t.Errorf("%s shares memory with an argument, or changes it", c.name)
			}
		}
	}
}

func TestMemoryOfKeys(t *testing.T) {
	key := message(3, 16)
	for k := range 11 {
		l, _ := cipher.Keys(key)
		want, _ := cipher.Keys(key)
		spoil(l[k])
		for other := range l {
			if other != k && !bytes.Equal(l[other], want[other]) {
				t.Errorf("round keys %d and %d share memory: %s is %s", k, other, octets.Hex(want[other]), octets.Hex(l[other]))
			}
		}
	}
}
