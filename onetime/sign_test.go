package onetime_test

import (
	"bytes"
	"slices"
	"testing"

	"sectime/api"
	"sectime/octets"
	"sectime/onetime"
)

// standardSign is Sign as the chapter defines it.
func standardSign(t *testing.T, seed []byte, index int, digest []byte) [][]byte {
	t.Helper()
	var l [][]byte
	for chain, d := range standardDigits(t, digest) {
		l = append(l, along(standardSecret(seed, index, chain), d))
	}
	return l
}

// standardRecover is Recover as the chapter defines it.
func standardRecover(t *testing.T, digest []byte, signature [][]byte) []byte {
	t.Helper()
	var ends [][]byte
	for chain, d := range standardDigits(t, digest) {
		ends = append(ends, along(signature[chain], 15-d))
	}
	return short(ends...)
}

func equal(a, b [][]byte) bool {
	return slices.EqualFunc(a, b, bytes.Equal)
}

func cloned(l [][]byte) [][]byte {
	out := make([][]byte, len(l))
	for k, b := range l {
		out[k] = bytes.Clone(b)
	}
	return out
}

// elements returns n elements of a size, all different, that no key has signed with.
func elements(n, size int) [][]byte {
	l := make([][]byte, n)
	for k := range l {
		l[k] = message(byte(k), size)
	}
	return l
}

// signed returns the signature of a digest, and the public key.
func signed(t *testing.T, seed []byte, index int, digest []byte) ([][]byte, []byte) {
	t.Helper()
	signature, e := onetime.Sign(seed, index, digest)
	public, e2 := onetime.Public(seed, index)
	if e != api.OK || e2 != api.OK {
		t.Fatalf("Sign and Public with index %d: %v and %v", index, e, e2)
	}
	return signature, public
}

// The wanted bytes were computed by another program.
func TestKnownSignature(t *testing.T) {
	signature, public := signed(t, count(32), 258, short([]byte("abc")))
	for chain, want := range map[int]string{
		0:  "dfd52d934cb8c0ff8f260ba9100a607c",
		31: "8d249a72791c7f5d78513537810836d0",
		32: "2d94ef2732140a3a08de0c97108bc4b6",
		34: "a4a3c7a1cdbea4a209227631c3015019",
	} {
		if got := octets.Hex(signature[chain]); got != want {
			t.Errorf("element %d is %s, want %s", chain, got, want)
		}
	}
	if got, want := octets.Hex(short(signature...)), "d47ba986a2f1328fd15b40763e109cc2"; got != want {
		t.Errorf("all elements have the hash %s, want %s", got, want)
	}
	if got, want := octets.Hex(public), "7cc807e9275d3b6954b141b5056dc8d1"; got != want {
		t.Errorf("the public key is %s, want %s", got, want)
	}
}

// Recover of what Sign returns is Public.
func TestSignAndRecover(t *testing.T) {
	for k, digest := range digests() {
		seed, index := seeds()[k%len(seeds())], indices()[k%len(indices())]
		signature, public := signed(t, seed, index, digest)
		if want := standardSign(t, seed, index, digest); !equal(signature, want) {
			t.Errorf("Sign of %x with index %d is %x, want %x", digest, index, signature, want)
		}
		if got, e := onetime.Recover(digest, signature); e != api.OK || !bytes.Equal(got, public) {
			t.Errorf("Recover of %x with index %d is %x and %v, want %x", digest, index, got, e, public)
		}
	}
}

// Recover takes any elements: it compares them with nothing.
func TestRecoverOfAnyElements(t *testing.T) {
	zeros := make([][]byte, 35)
	for k := range zeros {
		zeros[k] = make([]byte, 16)
	}
	for _, digest := range digests() {
		for _, l := range [][][]byte{elements(35, 16), zeros} {
			if got, e := onetime.Recover(digest, l); e != api.OK || !bytes.Equal(got, standardRecover(t, digest, l)) {
				t.Errorf("Recover of %x is %x and %v, want %x", digest, got, e, standardRecover(t, digest, l))
			}
		}
	}
}

// checkRefused checks that these elements do not lead to a public key.
func checkRefused(t *testing.T, what string, digest []byte, signature [][]byte, public []byte) {
	t.Helper()
	if got, e := onetime.Recover(digest, signature); e != api.OK || bytes.Equal(got, public) {
		t.Errorf("%s: Recover is %x and %v, where the public key is %x", what, got, e, public)
	}
}

func TestChangedSignatures(t *testing.T) {
	seed, digest := message(3, 32), short([]byte("a message"))
	signature, public := signed(t, seed, 3, digest)
	for chain := range signature {
		for at := range 16 {
			for bit := range 8 {
				changed := cloned(signature)
				changed[chain][at] ^= 1 << bit
				checkRefused(t, "a changed bit", digest, changed, public)
			}
		}
		further := cloned(signature)
		further[chain] = short(further[chain])
		checkRefused(t, "an element that is one step further", digest, further, public)
		swapped := cloned(signature)
		swapped[chain], swapped[(chain+1)%35] = swapped[(chain+1)%35], swapped[chain]
		checkRefused(t, "two swapped elements", digest, swapped, public)
	}
	for at := range 16 {
		for bit := range 8 {
			other := bytes.Clone(digest)
			other[at] ^= 1 << bit
			checkRefused(t, "another digest", other, signature, public)
		}
	}
	for _, index := range []int{0, 2, 4, 259} {
		other, _ := signed(t, seed, index, digest)
		checkRefused(t, "a signature with another index", digest, other, public)
	}
	other, _ := signed(t, message(4, 32), 3, digest)
	checkRefused(t, "a signature with another seed", digest, other, public)
}

// Whoever goes along the chains as far as one signature permits reaches no signature of another digest.
func TestForgedSignatures(t *testing.T) {
	seed, all := message(3, 32), digests()
	for k, digest := range all[len(all)-100:] {
		signature, public := signed(t, seed, k, digest)
		digits, _ := onetime.Digits(digest)
		for _, other := range append(all[len(all)-33:], bytes.Repeat([]byte{0xff}, 16), make([]byte, 16)) {
			if bytes.Equal(other, digest) {
				continue
			}
			wanted, _ := onetime.Digits(other)
			forged := cloned(signature)
			for chain := range forged {
				forged[chain] = along(forged[chain], max(0, wanted[chain]-digits[chain]))
			}
			checkRefused(t, "a forged signature", other, forged, public)
		}
	}
}

func TestErrorsOfSign(t *testing.T) {
	seed, digest := message(3, 32), message(9, 16)
	for _, c := range []struct {
		seed   []byte
		index  int
		digest []byte
		want   api.Errno
	}{
		{nil, -1, nil, api.ErrKey},
		{seed[1:], 1 << 31, digest, api.ErrKey},
		{seed[1:], 0, digest[1:], api.ErrKey},
		{message(3, 33), -1, digest[1:], api.ErrKey},
		{seed, -1, nil, api.ErrRange},
		{seed, 1 << 31, digest[1:], api.ErrRange},
		{seed, -1, digest, api.ErrRange},
		{seed, 0, nil, api.ErrForm},
		{seed, 0, digest[1:], api.ErrForm},
		{seed, 1<<31 - 1, message(9, 17), api.ErrForm},
		{seed, 1<<31 - 1, message(9, 32), api.ErrForm},
		{seed, 1<<31 - 1, digest, api.OK},
	} {
		l, e := onetime.Sign(c.seed, c.index, c.digest)
		if e != c.want || e == api.OK && len(l) != 35 || e != api.OK && len(l) != 0 {
			t.Errorf("Sign with a seed of %d bytes, index %d and a digest of %d bytes is %x and %v, want %v", len(c.seed), c.index, len(c.digest), l, e, c.want)
		}
	}
}

// checkForm checks that Recover returns ErrForm and nothing else.
func checkForm(t *testing.T, what string, digest []byte, signature [][]byte) {
	t.Helper()
	if got, e := onetime.Recover(digest, signature); e != api.ErrForm || len(got) != 0 {
		t.Errorf("%s: Recover is %x and %v, want nothing and ErrForm", what, got, e)
	}
}

func TestErrorsOfRecover(t *testing.T) {
	digest := message(9, 16)
	for size := range 40 {
		if size != 16 {
			checkForm(t, "a digest that is too short or too long", message(9, size), elements(35, 16))
			checkForm(t, "and a wrong signature", message(9, size), elements(34, 16))
		}
	}
	for n := range 80 {
		if n != 35 {
			checkForm(t, "too few or too many elements", digest, elements(n, 16))
		}
	}
	checkForm(t, "nothing", nil, nil)
	checkForm(t, "no elements", digest, nil)
	checkForm(t, "empty elements", digest, make([][]byte, 35))
	checkForm(t, "very many elements", digest, make([][]byte, 1<<20))
	// Elements behind the length of a list are not part of it.
	checkForm(t, "a longer list", digest, elements(36, 16)[:34])
	for chain := range 35 {
		for _, size := range []int{0, 1, 15, 17, 32} {
			l := elements(35, 16)
			l[chain] = message(byte(chain), size)
			checkForm(t, "an element that is too short or too long", digest, l)
		}
		l := elements(35, 16)
		l[chain] = nil
		checkForm(t, "an element that is missing", digest, l)
	}
}
