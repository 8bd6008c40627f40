package signer_test

import (
	"bytes"
	"math"
	"testing"

	"sectime/api"
	"sectime/signer"
)

// checkRefused checks that Verify does not accept a signature.
func checkRefused(t *testing.T, what string, public, message, signature []byte) {
	t.Helper()
	if signer.Verify(public, message, signature) {
		t.Errorf("%s: Verify accepts %x", what, signature)
	}
}

// checkForm checks that these bytes are no signature for any function.
func checkForm(t *testing.T, what string, public, message, signature []byte) {
	t.Helper()
	checkRefused(t, what, public, message, signature)
	if index, e := signer.Index(signature); e != api.ErrForm || index != 0 {
		t.Errorf("%s: Index is %d and %v, want 0 and ErrForm", what, index, e)
	}
}

func TestChangedBits(t *testing.T) {
	seed, message := some(90, 32), []byte("a message")
	key, signature := public(t, seed, 2), sign(t, seed, 2, 1, message)
	for _, list := range [][]byte{signature, key, message} {
		for at := range list {
			for bit := range 8 {
				list[at] ^= 1 << bit
				checkRefused(t, "a changed bit", key, message, signature)
				list[at] ^= 1 << bit
			}
		}
	}
	if !signer.Verify(key, message, signature) {
		t.Error("Verify refuses what was not changed")
	}
}

func TestOtherMessagesAndKeys(t *testing.T) {
	seed, message := some(90, 32), []byte("a message")
	key, signature := public(t, seed, 2), sign(t, seed, 2, 1, message)
	for _, other := range [][]byte{nil, message[1:], message[:8], append(bytes.Clone(message), 0), append([]byte{0}, message...), []byte("A message")} {
		checkRefused(t, "another message", key, other, signature)
	}
	for height := range 7 {
		if height != 2 {
			checkRefused(t, "the key of another height", public(t, seed, height), message, signature)
		}
	}
	checkRefused(t, "the key of another seed", public(t, some(91, 32), 2), message, signature)
	for index := range 4 {
		if index != 1 {
			other := sign(t, seed, 2, index, message)
			checkRefused(t, "another index", key, message, append(bytes.Clone(other[:5]), signature[5:]...))
			checkRefused(t, "the path of another index", key, message, append(bytes.Clone(signature[:565]), other[565:]...))
			checkRefused(t, "the elements of another index", key, message, bytes.Join([][]byte{signature[:5], other[5:565], signature[565:]}, nil))
		}
	}
	for k := range 2 {
		swapped := bytes.Clone(signature)
		copy(swapped[5+16*k:], signature[5+16*(k+1):5+16*(k+2)])
		copy(swapped[5+16*(k+1):], signature[5+16*k:5+16*(k+1)])
		checkRefused(t, "swapped elements", key, message, swapped)
	}
	checkRefused(t, "a swapped path", key, message, bytes.Join([][]byte{signature[:565], signature[597:], signature[565:597]}, nil))
}

// The first half of a tree is a tree of its own, but what was signed below the whole one is not signed below the half.
func TestSignaturesOfHalves(t *testing.T) {
	seed, message := some(90, 32), []byte("a message")
	whole := sign(t, seed, 2, 1, message)
	half := bytes.Clone(whole[:597])
	half[0] = 1
	checkRefused(t, "a shortened path", public(t, seed, 1), message, half)
	short := sign(t, seed, 1, 1, message)
	longer := append(bytes.Clone(short), whole[597:]...)
	longer[0] = 2
	checkRefused(t, "a longer path", public(t, seed, 2), message, longer)
}

func TestLengthsOfPublics(t *testing.T) {
	seed, message := some(90, 32), []byte("a message")
	key, signature := public(t, seed, 1), sign(t, seed, 1, 0, message)
	for size := range 100 {
		other := append(bytes.Clone(key), make([]byte, 100)...)[:size]
		if got := signer.Verify(other, message, signature); got != (size == 32) {
			t.Errorf("Verify with a key of %d bytes is %v", size, got)
		}
	}
	checkRefused(t, "no key", nil, message, signature)
	checkRefused(t, "a key that is half", key[:16], message, signature)
	checkRefused(t, "a key behind zeros", append([]byte{0}, key...), message, signature)
}

// A message that is too long is refused also if its signature is right.
func TestLengthsOfMessages(t *testing.T) {
	seed := some(90, 32)
	for height := range 2 {
		key := public(t, seed, height)
		for size, want := range map[int]bool{65534: true, 65535: true, 65536: false, 65537: false, 1 << 18: false} {
			message := some(5, size)
			if got := signer.Verify(key, message, standardSign(seed, height, 0, message)); got != want {
				t.Errorf("Verify of a message of %d bytes is %v, want %v", size, got, want)
			}
		}
	}
}

// Each height asks for a length of its own.
func TestLengthsOfSignatures(t *testing.T) {
	seed, message := some(90, 32), []byte("a message")
	for height := range 7 {
		key, signature := public(t, seed, height), sign(t, seed, height, 0, message)
		long := append(bytes.Clone(signature), make([]byte, 300)...)
		for size := range long {
			if size == 565+32*height {
				continue
			}
			checkForm(t, "a signature that is too short or too long", key, message, long[:size])
			// Without room behind it, whoever reads beyond its end panics.
			checkForm(t, "a signature that is cut off", key, message, long[:size:size])
		}
		// Bytes behind the length of a signature are not part of it.
		checkForm(t, "a signature with its end behind it", key, message, signature[:len(signature)-1])
		if !signer.Verify(key, message, long[:len(signature)]) {
			t.Errorf("Verify refuses a signature of height %d with bytes behind it", height)
		}
	}
	checkForm(t, "no signature", public(t, seed, 0), message, nil)
	checkForm(t, "an empty signature", public(t, seed, 0), message, []byte{})
	checkForm(t, "a very long signature", public(t, seed, 0), message, make([]byte, 1<<20))
}

// Trees that are too high are refused also if the signature is right.
func TestHeightsThatAreTooGreat(t *testing.T) {
	seed, message := some(90, 32), []byte("a message")
	for _, height := range []int{7, 8} {
		for _, index := range []int{0, 1, 63, 64, 1<<height - 1} {
			checkForm(t, "a tree that is too high", standardPublic(seed, height), message, standardSign(seed, height, index, message))
		}
	}
	for height := 7; height < 256; height++ {
		for _, path := range []int{0, 6, height} {
			b := append([]byte{byte(height)}, make([]byte, 4+560+32*path)...)
			checkForm(t, "a height that is too great", make([]byte, 32), message, b)
		}
	}
}

func TestIndices(t *testing.T) {
	for height := range 7 {
		b := append([]byte{byte(height)}, some(7, 4+560+32*height)...)
		for index := range 1 << height {
			copy(b[1:], four(index))
			if got, e := signer.Index(b); e != api.OK || got != index {
				t.Errorf("Index of height %d is %d and %v, want %d", height, got, e, index)
			}
			// Index looks at the form alone: nobody has signed these bytes.
			checkRefused(t, "any bytes of this form", make([]byte, 32), nil, b)
		}
		for _, index := range []int{1 << height, 1<<height + 1, 64, 65, 127, 128, 255, 256, 1 << 16, 1 << 24, math.MaxInt32, 1 << 31, 1<<31 + 1, math.MaxUint32} {
			copy(b[1:], four(index))
			checkForm(t, "an index that is too great", make([]byte, 32), nil, b)
		}
	}
}

// An index that no leaf has is refused also if all hashes are those of a leaf.
func TestIndicesBeyondTheTree(t *testing.T) {
	seed, message := some(90, 32), []byte("a message")
	for height := range 7 {
		key := public(t, seed, height)
		for _, beyond := range []int{1 << height, 1 << (height + 1), 1 << 8, 1 << 16, 1 << 31} {
			signature := sign(t, seed, height, 0, message)
			digest := short(key, four(beyond), message)
			elements := bytes.Join(standardElements(seed, 0, digest), nil)
			b := bytes.Join([][]byte{{byte(height)}, four(beyond), elements, signature[565:]}, nil)
			checkForm(t, "an index beyond the tree", key, message, b)
		}
	}
}
