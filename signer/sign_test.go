package signer_test

import (
	"bytes"
	"fmt"
	"testing"

	"sectime/api"
	"sectime/octets"
	"sectime/signer"
)

// sign returns the signature of a message by the key with this index.
func sign(t *testing.T, seed []byte, height, index int, message []byte) []byte {
	t.Helper()
	next, b, e := signer.Sign(api.Signer{Seed: seed, Height: height, Next: index}, message)
	if e != api.OK || !bytes.Equal(next.Seed, seed) || next.Height != height || next.Next != index+1 {
		t.Fatalf("Sign of height %d with Next %d returns the signer %v and %v", height, index, next, e)
	}
	return b
}

// public returns a public key.
func public(t *testing.T, seed []byte, height int) []byte {
	t.Helper()
	b, e := signer.Public(seed, height)
	if e != api.OK {
		t.Fatalf("Public of height %d: %v", height, e)
	}
	return b
}

// The wanted bytes were computed by another program.
func TestKnownSignatures(t *testing.T) {
	abc := []byte("abc")
	for _, c := range []struct {
		height, index     int
		message           []byte
		size              int
		first, last, hash string
	}{
		{0, 0, nil, 565, "0000000000633cde530fdaa35ec4352e8648f1f9aa", "f1ffb00c73311a0b9b388278a88865ec54e18dd00736f44f94b7aa4eb6b1d809", "235174d38f3264659c112dda2c7eaca44c935244d234f31cd074fc33c02ce16d"},
		{1, 1, abc, 597, "0100000001c28fce0ec7916b491a10e543bd659853", "729070617da85d6e2b589c64782275ed1486b320e077ce80a34defcdb247ad4d", "e763f25b559e9940a07da33fc07878f7177dcbed0ac4003be6cbb3529f029aaf"},
		{3, 5, abc, 661, "03000000053d092cc030c54c7c9d18bf9841e05361", "eb442f824257ec678c3f23989343d0275038f72b7719e29eb8ecfe22e27f9f44", "a56d8b1d228ff99cdb25bffdae419b5dbbf2c73e063542543097320428fd7afb"},
		{6, 0, abc, 757, "060000000005455a90219fd94d03d0915b2f25b652", "598a82da24260292692f900b403f76ba0af6311b727ee7f177da0f8456bca360", "ca5854df78d407a74cef080204f2c371cccfb693d1d941610a0d6cc104b296d9"},
		{6, 63, abc, 757, "060000003f1975e21fe08f9a0a05181bcf3e4dc6b2", "d3d641d9021997709293055f49b12bd625cd5217db40d50a31a31cce59fa1b9f", "4222da74f685a728dcec45694254962841aeb161623a8e6d0b524a34470e23e3"},
		{6, 37, make([]byte, 65535), 757, "0600000025e8bbd463d96fd44a5ad7b880f6a603e8", "d3d641d9021997709293055f49b12bd625cd5217db40d50a31a31cce59fa1b9f", "1ec821c04d5504333015e08daef2f6f5cabc2cb0159dfdc0e48757d4f5410d80"},
	} {
		got := sign(t, count(32), c.height, c.index, c.message)
		if len(got) != c.size || octets.Hex(got[:21]) != c.first || octets.Hex(got[len(got)-32:]) != c.last || octets.Hex(sum(got)) != c.hash {
			t.Errorf("Sign of height %d with Next %d is %x", c.height, c.index, got)
		}
	}
}

// checkSigned checks one signature in a row of them, and returns the signer behind it.
func checkSigned(t *testing.T, s api.Signer, public, message []byte) api.Signer {
	t.Helper()
	next, got, e := signer.Sign(s, message)
	if want := standardSign(s.Seed, s.Height, s.Next, message); e != api.OK || !bytes.Equal(got, want) {
		t.Errorf("Sign of height %d with Next %d is %x and %v, want %x", s.Height, s.Next, got, e, want)
	}
	if !bytes.Equal(next.Seed, s.Seed) || next.Height != s.Height || next.Next != s.Next+1 || !signer.Valid(next) {
		t.Errorf("Sign of height %d with Next %d returns the signer %v", s.Height, s.Next, next)
	}
	if !signer.Verify(public, message, got) {
		t.Errorf("the signature of height %d with Next %d is refused", s.Height, s.Next)
	}
	if index, e := signer.Index(got); e != api.OK || index != s.Next {
		t.Errorf("Index is %d and %v, want %d", index, e, s.Next)
	}
	return next
}

// A key signs as many messages as its tree has leaves, each with another one-time key, and then none.
func TestSignUntilNoKeyIsLeft(t *testing.T) {
	for height := range 7 {
		s := api.Signer{Seed: seeds()[height%len(seeds())], Height: height}
		key := public(t, s.Seed, height)
		for k := range 1 << height {
			s = checkSigned(t, s, key, some(byte(k), 10*k))
		}
		if left, e := signer.Left(s); left != 0 || e != api.OK {
			t.Errorf("Left behind all signatures of height %d is %d and %v", height, left, e)
		}
		checkRefusal(t, s, []byte("a message"), api.ErrState)
	}
}

// Sizes around the blocks of the hash, behind the bytes of the key and the index, and the greatest ones.
func TestMessages(t *testing.T) {
	seed := some(90, 32)
	key := public(t, seed, 1)
	for _, size := range []int{0, 1, 18, 19, 20, 27, 28, 29, 63, 64, 65, 1000, 65534, 65535} {
		for index := range 2 {
			checkSigned(t, api.Signer{Seed: seed, Height: 1, Next: index}, key, some(byte(size), size))
		}
	}
	none, empty := sign(t, seed, 1, 0, nil), sign(t, seed, 1, 0, []byte{})
	if !bytes.Equal(none, empty) || !signer.Verify(key, []byte{}, none) || !signer.Verify(key, nil, empty) {
		t.Error("no message and an empty one are not the same")
	}
}

// What was signed before has no part in a signature.
func TestSignIsRepeatable(t *testing.T) {
	seed := some(90, 32)
	want := sign(t, seed, 2, 1, []byte("a message"))
	sign(t, seed, 2, 1, []byte("another message"))
	sign(t, seed, 2, 2, []byte("a message"))
	if got := sign(t, seed, 2, 1, []byte("a message")); !bytes.Equal(got, want) {
		t.Errorf("Sign is %x at first, and then %x", want, got)
	}
}

// checkRefusal checks that Sign returns this error and nothing else.
func checkRefusal(t *testing.T, s api.Signer, message []byte, want api.Errno) {
	t.Helper()
	next, b, e := signer.Sign(s, message)
	if e != want || len(b) != 0 || len(next.Seed) != 0 || next.Height != 0 || next.Next != 0 {
		t.Errorf("Sign with a seed of %d bytes, height %d, Next %d and a message of %d bytes is %v, %x and %v, want nothing and %v", len(s.Seed), s.Height, s.Next, len(message), next, b, e, want)
	}
}

func TestErrorsOfSign(t *testing.T) {
	seed := some(3, 32)
	for _, size := range []int{65536, 65537, 1 << 20} {
		long := make([]byte, size)
		checkRefusal(t, api.Signer{}, long, api.ErrForm)
		checkRefusal(t, api.Signer{Seed: seed[1:], Height: 6, Next: 64}, long, api.ErrForm)
		checkRefusal(t, api.Signer{Seed: seed, Height: 7, Next: 128}, long, api.ErrForm)
		checkRefusal(t, api.Signer{Seed: seed, Height: 1, Next: 3}, long, api.ErrForm)
		checkRefusal(t, api.Signer{Seed: seed, Height: 1, Next: -1}, long, api.ErrForm)
		for height := range 7 {
			checkRefusal(t, api.Signer{Seed: seed, Height: height, Next: 1 << height}, long, api.ErrState)
			checkRefusal(t, api.Signer{Seed: seed, Height: height, Next: 1<<height - 1}, long, api.ErrLong)
			checkRefusal(t, api.Signer{Seed: seed, Height: height}, long, api.ErrLong)
		}
	}
	for height := range 7 {
		checkRefusal(t, api.Signer{Seed: seed, Height: height, Next: 1 << height}, make([]byte, 65535), api.ErrState)
		checkRefusal(t, api.Signer{Seed: seed, Height: height, Next: 1 << height}, nil, api.ErrState)
		sign(t, seed, height, 1<<height-1, make([]byte, 65535))
	}
}

// No two signatures of a key show the same secret, and none of them that of a key with another seed.
func TestElementsDiffer(t *testing.T) {
	seen := map[string]string{}
	for _, seed := range seeds() {
		for index := range 8 {
			b := sign(t, seed, 3, index, []byte("a message"))
			for chain := range 35 {
				element := string(b[5+16*chain : 5+16*chain+16])
				where := fmt.Sprintf("element %d with index %d", chain, index)
				if other := seen[element]; other != "" {
					t.Errorf("%s is the same as %s", where, other)
				}
				seen[element] = where
			}
		}
	}
}
