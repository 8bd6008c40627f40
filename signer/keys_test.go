package signer_test

import (
	"bytes"
	"math"
	"testing"

	"sectime/api"
	"sectime/octets"
	"sectime/signer"
)

// The wanted keys were computed by another program.
func TestKnownPublics(t *testing.T) {
	for _, c := range []struct {
		seed   []byte
		height int
		want   string
	}{
		{make([]byte, 32), 0, "fd6e32781f287a6ab4343829bb65934bbb7a00751c001af4c47b3eaf5945f89f"},
		{make([]byte, 32), 3, "472083bdb1de616321dc5a41df3f66e2b44387c8141dabe37311f6e8063a5477"},
		{make([]byte, 32), 6, "636f345a9da66a213a241f255bedfdd42db97674534787711549d90aef7e7f52"},
		{count(32), 0, "729070617da85d6e2b589c64782275ed1486b320e077ce80a34defcdb247ad4d"},
		{count(32), 1, "6901d68124cfd6a62faafda18b9166550ce6aa99abea299987eb0b32b7866c4a"},
		{count(32), 2, "eb442f824257ec678c3f23989343d0275038f72b7719e29eb8ecfe22e27f9f44"},
		{count(32), 3, "141e223b8a02370eeb96b3dd5b01155690af680fc124bb832b5afb66f9001643"},
		{count(32), 4, "7d3532084b368b642e3626b9a0855bbe219b03e404cb99d042142af16d6efdfa"},
		{count(32), 5, "d3d641d9021997709293055f49b12bd625cd5217db40d50a31a31cce59fa1b9f"},
		{count(32), 6, "16c15e678aa863d9e51d7d37ff9bb44bc3d7a27b2b24f266410ad4d2b72270b6"},
		{bytes.Repeat([]byte{0xff}, 32), 6, "780aa0ef6009b3ab9dae197223655b22b1a74dd7deead126d12ace26e8cce6b0"},
	} {
		if got, e := signer.Public(c.seed, c.height); e != api.OK || octets.Hex(got) != c.want {
			t.Errorf("Public of height %d is %x and %v, want %s", c.height, got, e, c.want)
		}
	}
}

func TestPublic(t *testing.T) {
	seen := map[string]bool{}
	for _, seed := range seeds() {
		for height := range 7 {
			got, e := signer.Public(seed, height)
			if want := standardPublic(seed, height); e != api.OK || !bytes.Equal(got, want) {
				t.Errorf("Public of height %d is %x and %v, want %x", height, got, e, want)
			}
			seen[string(got)] = true
		}
	}
	if want := len(seeds()) * 7; len(seen) != want {
		t.Errorf("there are %d public keys, want %d", len(seen), want)
	}
}

// wrongHeights are those that no key has; some are right if only their last bits are looked at.
func wrongHeights() []int {
	return []int{-1, -2, -256, math.MinInt32, math.MinInt, 7, 8, 31, 32, 63, 64, 255, 256, 1 << 32, math.MaxInt}
}

// wrongSeeds are those that are too short or too long, also with room behind them.
func wrongSeeds() [][]byte {
	l := [][]byte{nil, {}, make([]byte, 31, 32), make([]byte, 32, 64)[:33], make([]byte, 1<<20)}
	for size := range 100 {
		if size != 32 {
			l = append(l, some(3, size))
		}
	}
	return l
}

func TestErrorsOfPublic(t *testing.T) {
	check := func(seed []byte, height int, want api.Errno) {
		t.Helper()
		if got, e := signer.Public(seed, height); e != want || len(got) != 0 {
			t.Errorf("Public of a seed of %d bytes and height %d is %x and %v, want nothing and %v", len(seed), height, got, e, want)
		}
	}
	for _, seed := range wrongSeeds() {
		for _, height := range append(wrongHeights(), 0, 6) {
			check(seed, height, api.ErrKey)
		}
	}
	for _, height := range wrongHeights() {
		check(some(3, 32), height, api.ErrRange)
	}
}

func TestValidSigners(t *testing.T) {
	for height := range 7 {
		for next := range 1<<height + 1 {
			s := api.Signer{Seed: some(3, 32), Height: height, Next: next}
			if !signer.Valid(s) {
				t.Errorf("a signer of height %d with Next %d is not valid", height, next)
			}
			if left, e := signer.Left(s); e != api.OK || left != 1<<height-next {
				t.Errorf("Left with height %d and Next %d is %d and %v, want %d", height, next, left, e, 1<<height-next)
			}
		}
	}
}

// checkNotValid checks that no function takes s.
func checkNotValid(t *testing.T, s api.Signer) {
	t.Helper()
	if signer.Valid(s) {
		t.Errorf("a signer with a seed of %d bytes, height %d and Next %d is valid", len(s.Seed), s.Height, s.Next)
	}
	if left, e := signer.Left(s); e != api.ErrForm || left != 0 {
		t.Errorf("Left with a seed of %d bytes, height %d and Next %d is %d and %v, want 0 and ErrForm", len(s.Seed), s.Height, s.Next, left, e)
	}
	checkRefusal(t, s, []byte("a message"), api.ErrForm)
}

func TestSignersThatAreNotValid(t *testing.T) {
	checkNotValid(t, api.Signer{})
	for _, seed := range wrongSeeds() {
		checkNotValid(t, api.Signer{Seed: seed})
		checkNotValid(t, api.Signer{Seed: seed, Height: 6, Next: 64})
		checkNotValid(t, api.Signer{Seed: seed, Height: 7, Next: -1})
	}
	for _, height := range wrongHeights() {
		for _, next := range []int{-1, 0, 1, 2, 64, 128, math.MinInt, math.MaxInt} {
			checkNotValid(t, api.Signer{Seed: some(3, 32), Height: height, Next: next})
		}
	}
	for height := range 7 {
		for _, next := range []int{-1, -2, -64, math.MinInt32, math.MinInt, 1<<height + 1, 65, 66, 128, 1 << 32, 1 << 62, math.MaxInt} {
			checkNotValid(t, api.Signer{Seed: some(3, 32), Height: height, Next: next})
		}
	}
}
