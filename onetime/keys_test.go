package onetime_test

import (
	"bytes"
	"crypto/sha256"
	"math"
	"testing"

	"sectime/api"
	"sectime/octets"
	"sectime/onetime"
)

// short is Short with the library's hash, of lists behind each other.
func short(l ...[]byte) []byte {
	h := sha256.Sum256(bytes.Join(l, nil))
	return h[:16]
}

// along returns what lies n steps behind b.
func along(b []byte, n int) []byte {
	for range n {
		b = short(b)
	}
	return b
}

// standardSecret is Secret as the chapter defines it.
func standardSecret(seed []byte, index, chain int) []byte {
	return short(seed, []byte{byte(index >> 24), byte(index >> 16), byte(index >> 8), byte(index), byte(chain)})
}

// standardPublic is Public as the chapter defines it.
func standardPublic(seed []byte, index int) []byte {
	var ends [][]byte
	for chain := range 35 {
		ends = append(ends, along(standardSecret(seed, index, chain), 15))
	}
	return short(ends...)
}

// count returns the bytes from 0 on.
func count(size int) []byte {
	b := make([]byte, size)
	for k := range b {
		b[k] = byte(k)
	}
	return b
}

func seeds() [][]byte {
	return [][]byte{make([]byte, 32), count(32), bytes.Repeat([]byte{0xff}, 32), message(90, 32)}
}

// indices are those around the bounds of each byte.
func indices() []int {
	return []int{0, 1, 2, 63, 127, 128, 255, 256, 257, 65535, 65536, 1<<24 - 1, 1 << 24, 0x01020304, 1<<31 - 2, 1<<31 - 1}
}

// The wanted keys were computed by another program.
func TestKnownKeys(t *testing.T) {
	for _, c := range []struct {
		seed                        []byte
		index                       int
		first, second, last, public string
	}{
		{make([]byte, 32), 0, "ab24a95f44ceca5d2aed4b6d056adddd", "8d97df5ff83db01f7c97ccf9009e0aff", "a8b41c8346617bad2dab526596877a4e", "dd8fed469d181d2d8f51aab621d45a81"},
		{make([]byte, 32), 1, "d71acbab16d276ceed980d41b9873d6f", "9e36d9205ecabe3c32216b39101ac285", "d27ae234df8700d5c779db7e37d0d002", "3519b8ba147154539d5b300e2f60f768"},
		{make([]byte, 32), 1<<31 - 1, "edff62207a69e3f2c401fbb4fbdb7767", "820b2f6ce188504f89c1fadb7059804b", "021f2eebc243ef7e41906b53f3051b23", "5c91623833a748af9bec2cfc291da1f3"},
		{count(32), 0, "c865403d1346a2ed5c486faa0a27b628", "20d7b426f9c4d31637fae3deb7cab31b", "54e18dd00736f44f94b7aa4eb6b1d809", "2c4e2308eea3241cbec28efcfa683918"},
		{count(32), 1, "6f172557e9773614882188bdaf6c6e0f", "db5d54e297f63511f30ee090c52c5243", "8413ce77f4937bcdf9273e04979a5e41", "5fccf62221fc37ff7d69305597dc9bfc"},
		{count(32), 1<<31 - 1, "bf4ed05f6bd7fb3bad8d30da3c336950", "1eea4d7695c4bb664692e32aacbf58f9", "348db66e1af0478db378ed30d6268a5d", "daf75828410146ca8a96db3360da2032"},
	} {
		for chain, want := range map[int]string{0: c.first, 1: c.second, 34: c.last} {
			if got, e := onetime.Secret(c.seed, c.index, chain); e != api.OK || octets.Hex(got) != want {
				t.Errorf("Secret of chain %d with index %d is %x and %v, want %s", chain, c.index, got, e, want)
			}
		}
		if got, e := onetime.Public(c.seed, c.index); e != api.OK || octets.Hex(got) != c.public {
			t.Errorf("Public with index %d is %x and %v, want %s", c.index, got, e, c.public)
		}
	}
}

func TestSecret(t *testing.T) {
	seen := map[string]bool{}
	for _, seed := range seeds() {
		for _, index := range indices() {
			for chain := range 35 {
				got, e := onetime.Secret(seed, index, chain)
				if want := standardSecret(seed, index, chain); e != api.OK || !bytes.Equal(got, want) {
					t.Errorf("Secret of chain %d with index %d is %x and %v, want %x", chain, index, got, e, want)
				}
				seen[string(got)] = true
			}
		}
	}
	if want := len(seeds()) * len(indices()) * 35; len(seen) != want {
		t.Errorf("there are %d secrets, want %d", len(seen), want)
	}
}

func TestPublic(t *testing.T) {
	seen := map[string]bool{}
	for _, seed := range seeds() {
		for _, index := range indices() {
			got, e := onetime.Public(seed, index)
			if want := standardPublic(seed, index); e != api.OK || !bytes.Equal(got, want) {
				t.Errorf("Public with index %d is %x and %v, want %x", index, got, e, want)
			}
			seen[string(got)] = true
		}
	}
	if want := len(seeds()) * len(indices()); len(seen) != want {
		t.Errorf("there are %d public keys, want %d", len(seen), want)
	}
}

// checkKeys checks which errors the functions with a seed return for a digest that is right.
func checkKeys(t *testing.T, seed []byte, index, chain int, secret, others api.Errno) {
	t.Helper()
	a, e := onetime.Secret(seed, index, chain)
	if e != secret || e == api.OK && len(a) != 16 || e != api.OK && len(a) != 0 {
		t.Errorf("Secret of chain %d with a seed of %d bytes and index %d is %x and %v, want %v", chain, len(seed), index, a, e, secret)
	}
	b, e := onetime.Public(seed, index)
	if e != others || e == api.OK && len(b) != 16 || e != api.OK && len(b) != 0 {
		t.Errorf("Public with a seed of %d bytes and index %d is %x and %v, want %v", len(seed), index, b, e, others)
	}
	c, e := onetime.Sign(seed, index, message(9, 16))
	if e != others || e == api.OK && len(c) != 35 || e != api.OK && len(c) != 0 {
		t.Errorf("Sign with a seed of %d bytes and index %d is %x and %v, want %v", len(seed), index, c, e, others)
	}
}

func TestLengthsOfSeeds(t *testing.T) {
	for size := range 100 {
		want := api.ErrKey
		if size == 32 {
			want = api.OK
		}
		checkKeys(t, message(3, size), 0, 0, want, want)
	}
	// Bytes behind the length of a seed are not part of it.
	for _, seed := range [][]byte{nil, {}, make([]byte, 31, 32), make([]byte, 32, 64)[:33], make([]byte, 1<<20)} {
		checkKeys(t, seed, 0, 0, api.ErrKey, api.ErrKey)
		checkKeys(t, seed, 1<<31-1, 34, api.ErrKey, api.ErrKey)
	}
}

func TestNumbersOutOfRange(t *testing.T) {
	seed := message(3, 32)
	wrongIndices := []int{-1, -2, -256, math.MinInt32, math.MinInt, 1 << 31, 1<<31 + 1, 1<<32 - 1, 1 << 32, 1<<32 + 1, 1 << 62, math.MaxInt}
	wrongChains := []int{-1, -2, -256, math.MinInt, 35, 36, 255, 256, 257, 1 << 32, math.MaxInt}
	for _, index := range wrongIndices {
		for _, chain := range append([]int{0, 34}, wrongChains...) {
			checkKeys(t, seed, index, chain, api.ErrRange, api.ErrRange)
			checkKeys(t, seed[1:], index, chain, api.ErrKey, api.ErrKey)
		}
	}
	for _, index := range []int{0, 1, 1<<31 - 1} {
		for _, chain := range wrongChains {
			checkKeys(t, seed, index, chain, api.ErrRange, api.OK)
			checkKeys(t, seed[1:], index, chain, api.ErrKey, api.ErrKey)
		}
		for chain := range 35 {
			checkKeys(t, seed, index, chain, api.OK, api.OK)
		}
	}
}
