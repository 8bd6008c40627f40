package signer_test

import (
	"bytes"
	"testing"

	"sectime/api"
	"sectime/signer"
)

// spoil changes all the memory of a list, so that whatever shares it shows.
func spoil(b []byte) {
	b = b[:cap(b)]
	for k := range b {
		b[k] ^= 0xff
	}
}

// spare returns a copy of b with bytes behind it that no function may read or change.
func spare(b []byte) []byte {
	return append(bytes.Clone(b), some(80, 100)...)[:len(b)]
}

// unchanged reports whether a list and what lies behind it are still those of spare.
func unchanged(b, want []byte) bool {
	return bytes.Equal(b, want) && bytes.Equal(b[:len(b)+100][len(b):], some(80, 100))
}

func TestMemoryOfSign(t *testing.T) {
	for height := range 3 {
		seed, message := spare(some(90, 32)), spare([]byte("a message"))
		want := standardSign(some(90, 32), height, 0, []byte("a message"))
		for range 2 {
			next, got, _ := signer.Sign(api.Signer{Seed: seed, Height: height}, message)
			if !bytes.Equal(got, want) {
				t.Errorf("Sign is %x, want %x", got, want)
			}
			spoil(next.Seed)
			if !bytes.Equal(got, want) {
				t.Error("the results of Sign share memory")
			}
			spoil(got)
			if !unchanged(seed, some(90, 32)) || !unchanged(message, []byte("a message")) {
				t.Error("Sign shares memory with an argument, or changes it")
			}
		}
	}
}

func TestMemoryOfPublic(t *testing.T) {
	for height := range 3 {
		seed := spare(some(90, 32))
		for range 2 {
			got, _ := signer.Public(seed, height)
			if want := standardPublic(some(90, 32), height); !bytes.Equal(got, want) {
				t.Errorf("Public is %x, want %x", got, want)
			}
			spoil(got)
			if !unchanged(seed, some(90, 32)) {
				t.Error("Public shares memory with its argument, or changes it")
			}
		}
	}
}

func TestMemoryOfOthers(t *testing.T) {
	seed, message := some(90, 32), []byte("a message")
	for height := range 3 {
		key, b := standardPublic(seed, height), standardSign(seed, height, 0, message)
		public, text, signature, kept := spare(key), spare(message), spare(b), spare(seed)
		s := api.Signer{Seed: kept, Height: height}
		for range 2 {
			left, _ := signer.Left(s)
			index, e := signer.Index(signature)
			if !signer.Verify(public, text, signature) || e != api.OK || index != 0 || !signer.Valid(s) || left != 1<<height {
				t.Errorf("a signature or a signer of height %d with bytes behind it is refused", height)
			}
			if !unchanged(public, key) || !unchanged(text, message) || !unchanged(signature, b) || !unchanged(kept, seed) {
				t.Error("Verify, Index, Valid or Left change an argument")
			}
		}
	}
}

// One list may be the key, the message and a part of the signature.
func TestSharedArguments(t *testing.T) {
	seed := some(90, 32)
	key := public(t, seed, 1)
	b := sign(t, seed, 1, 0, key)
	all := append(bytes.Clone(b), key...)
	shared := all[len(b):]
	if !signer.Verify(shared, shared, all[:len(b)]) || !bytes.Equal(all, append(bytes.Clone(b), key...)) {
		t.Error("Verify refuses or changes lists in one memory")
	}
	next, signature, e := signer.Sign(api.Signer{Seed: seed}, seed)
	if e != api.OK || !bytes.Equal(next.Seed, some(90, 32)) || !signer.Verify(public(t, seed, 0), seed, signature) {
		t.Errorf("Sign of the seed itself: %v", e)
	}
}
