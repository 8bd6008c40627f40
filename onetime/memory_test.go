package onetime_test

import (
	"bytes"
	"slices"
	"testing"

	"sectime/onetime"
)

// spoil changes all the memory of a list, so that whatever shares it shows.
func spoil(b []byte) {
	b = b[:cap(b)]
	for k := range b {
		b[k] ^= 0xff
	}
}

// one makes a list of a single result.
func one(b []byte) [][]byte {
	return [][]byte{b}
}

// Results are new, also within a list, arguments stay as they are, and what lies behind them has no part in the result.
func TestMemory(t *testing.T) {
	const room = 100
	for _, c := range []struct {
		name   string
		result func(seed, digest []byte, l [][]byte) [][]byte
	}{
		{"Secret", func(seed, _ []byte, _ [][]byte) [][]byte { b, _ := onetime.Secret(seed, 3, 4); return one(b) }},
		{"Public", func(seed, _ []byte, _ [][]byte) [][]byte { b, _ := onetime.Public(seed, 3); return one(b) }},
		{"Sign", func(seed, digest []byte, _ [][]byte) [][]byte { l, _ := onetime.Sign(seed, 3, digest); return l }},
		{"Recover", func(_, digest []byte, l [][]byte) [][]byte { b, _ := onetime.Recover(digest, l); return one(b) }},
		{"Digits", func(_, digest []byte, _ [][]byte) [][]byte { onetime.Digits(digest); return nil }},
	} {
		// With zeros in a digest an element of Sign is a secret, and with the greatest digit Recover takes an element as it is.
		for _, first := range [][]byte{message(40, 16), make([]byte, 16), bytes.Repeat([]byte{0xff}, 16)} {
			want := cloned(c.result(message(3, 32), first, elements(35, 16)))
			seed, digest, l := message(3, room), append(bytes.Clone(first), message(80, room)...), elements(40, room)
			kept, elementsKept := bytes.Clone(digest), cloned(l)
			parts := slices.Clone(l)
			for k := range parts {
				parts[k] = parts[k][:16]
			}
			list := slices.Clone(parts)
			for range 2 {
				got := c.result(seed[:32], digest[:16], parts[:35])
				if !equal(got, want) {
					t.Errorf("%s is %x, want %x", c.name, got, want)
				}
				for k := range got {
					spoil(got[k])
					if !equal(got[k+1:], want[k+1:]) {
						t.Errorf("%s returns elements that share memory", c.name)
					}
				}
				if !bytes.Equal(seed, message(3, room)) || !bytes.Equal(digest, kept) || !equal(l, elementsKept) || !equal(parts, list) {
					t.Errorf("%s shares memory with an argument, or changes it", c.name)
				}
			}
		}
	}
}

// One list may be several elements of a signature, and the digest as well.
func TestSharedElements(t *testing.T) {
	b := message(40, 16)
	same, apart := make([][]byte, 35), make([][]byte, 35)
	for k := range same {
		same[k], apart[k] = b, bytes.Clone(b)
	}
	got, e := onetime.Recover(b, same)
	want, e2 := onetime.Recover(bytes.Clone(b), apart)
	if e != e2 || !bytes.Equal(got, want) || !bytes.Equal(b, message(40, 16)) {
		t.Errorf("Recover of elements in one memory is %x and %v, want %x and %v", got, e, want, e2)
	}
}

func TestMemoryOfDigits(t *testing.T) {
	digest := message(40, 16)
	a, _ := onetime.Digits(digest)
	b, _ := onetime.Digits(digest)
	want := slices.Clone(b)
	for k := range a[:cap(a)] {
		a[:cap(a)][k] = 99
	}
	if !slices.Equal(b, want) {
		t.Errorf("two results of Digits share memory: %v, want %v", b, want)
	}
	if again, _ := onetime.Digits(digest); !slices.Equal(again, want) {
		t.Errorf("Digits are %v at first, and then %v", want, again)
	}
}
