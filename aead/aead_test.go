package aead_test

import (
	"bytes"
	"crypto/aes"
	"crypto/cipher"
	"testing"

	"sectime/aead"
	"sectime/api"
	"sectime/cmac"
	"sectime/octets"
)

const (
	mostElements = 16    // elements of associated data
	longest      = 65519 // bytes of an element, or of plain bytes
)

// message returns size bytes that begin with a given one, of which no block is like another one.
func message(first byte, size int) []byte {
	b := make([]byte, size)
	for k := range b {
		b[k] = first + byte(k*7+k>>4)
	}
	return b
}

// unhex returns the bytes of a text, which a mistyped one has not.
func unhex(t *testing.T, s string) []byte {
	t.Helper()
	b, ok := octets.Unhex(s)
	if !ok {
		t.Fatalf("%q is not hexadecimal", s)
	}
	return b
}

// keys returns keys whose halves differ, and those of equal ones.
func keys() [][]byte {
	return [][]byte{message(3, 32), message(90, 32), append(make([]byte, 16), message(7, 16)...), make([]byte, 32), bytes.Repeat([]byte{255}, 32)}
}

// lists returns associated data of all kinds: none, elements of nothing, and of parts of blocks and of several ones.
func lists() [][][]byte {
	return [][][]byte{
		nil,
		{nil},
		{nil, nil},
		{message(5, 1)},
		{message(5, 16)},
		{message(5, 40)},
		{message(5, 15), nil, message(77, 17)},
		{message(5, 32), message(6, 7), message(7, 16), message(8, 33)},
	}
}

// standardTag is Tag by the words of the chapter.
func standardTag(t *testing.T, key []byte, ad [][]byte, plain []byte) []byte {
	t.Helper()
	var l [][]byte
	for _, b := range ad {
		l = append(l, b)
	}
	tag, e := cmac.Vector(key[:16], append(l, plain))
	if e != api.OK {
		t.Fatalf("Vector of %d elements returns %v", len(ad)+1, e)
	}
	return tag
}

// standardStream is the library's AES in counter mode, from the counter of a tag on.
func standardStream(t *testing.T, key, tag, b []byte) []byte {
	t.Helper()
	c, err := aes.NewCipher(key[16:])
	if err != nil {
		t.Fatal(err)
	}
	counter := bytes.Clone(tag)
	for _, k := range []int{8, 12} {
		if counter[k] >= 128 {
			counter[k] -= 128
		}
	}
	out := make([]byte, len(b))
	cipher.NewCTR(c, counter).XORKeyStream(out, b)
	return out
}

// standardSeal is Seal of these two.
func standardSeal(t *testing.T, key []byte, ad [][]byte, plain []byte) []byte {
	t.Helper()
	tag := standardTag(t, key, ad, plain)
	return append(tag, standardStream(t, key, tag, plain)...)
}

// check compares the three functions with the standard ones, and returns the sealed bytes.
func check(t *testing.T, key []byte, ad [][]byte, plain []byte) []byte {
	t.Helper()
	want := standardSeal(t, key, ad, plain)
	if got, e := aead.Seal(key, ad, plain); e != api.OK || !bytes.Equal(got, want) {
		t.Errorf("Seal of %d bytes with %d elements is %.80x and %v, want %.80x", len(plain), len(ad), got, e, want)
	}
	if got, e := aead.Tag(key, ad, plain); e != api.OK || !bytes.Equal(got, want[:16]) {
		t.Errorf("Tag of %d bytes with %d elements is %x and %v, want %x", len(plain), len(ad), got, e, want[:16])
	}
	if got, e := aead.Open(key, ad, want); e != api.OK || !bytes.Equal(got, plain) {
		t.Errorf("Open of %d bytes with %d elements is %.80x and %v, want %.80x", len(want), len(ad), got, e, plain)
	}
	return want
}

// The examples of RFC 5297, and two without associated data.
func TestKnownBytes(t *testing.T) {
	first := "fffefdfcfbfaf9f8f7f6f5f4f3f2f1f0f0f1f2f3f4f5f6f7f8f9fafbfcfdfeff"
	for _, c := range []struct {
		key   string
		ad    []string
		plain string
		want  string
	}{
		{first, []string{"101112131415161718191a1b1c1d1e1f2021222324252627"}, "112233445566778899aabbccddee",
			"85632d07c6e8f37f950acd320a2ecc93" + "40c02b9690c4dc04daef7f6afe5c"},
		{"7f7e7d7c7b7a79787776757473727170404142434445464748494a4b4c4d4e4f", []string{
			"00112233445566778899aabbccddeeffdeaddadadeaddadaffeeddccbbaa99887766554433221100",
			"102030405060708090a0",
			"09f911029d74e35bd84156c5635688c0",
		}, "7468697320697320736f6d6520706c61696e7465787420746f20656e6372797074207573696e67205349562d414553",
			"7bdb6e3b432667eb06f4d14bff2fbd0f" +
				"cb900f2fddbe404326601965c889bf17dba77ceb094fa663b7a3f748ba8af829ea64ad544a272e9c485b62a3fd5c0d"},
		{first, nil, "", "f2007a5beb2b8900c588a7adf599f172"},
		{first, nil, "00112233445566778899aabbccddeeff", "f304f912863e303d5b540e5057c7010c" + "942ffaf45b0e5ca5fb9a56a5263bb065"},
	} {
		var ad [][]byte
		for _, s := range c.ad {
			ad = append(ad, unhex(t, s))
		}
		if got := octets.Hex(check(t, unhex(t, c.key), ad, unhex(t, c.plain))); got != c.want {
			t.Errorf("%s is sealed as %s, want %s", c.plain, got, c.want)
		}
	}
}

// Every place of the end in a block.
func TestAllLengths(t *testing.T) {
	for _, key := range keys() {
		for _, ad := range lists() {
			for size := range 70 {
				check(t, key, ad, message(40, size))
			}
		}
	}
}

// Data of every number of elements, each of another length, and of elements of nothing.
func TestAllNumbersOfElements(t *testing.T) {
	for n := range mostElements + 1 {
		for _, size := range []int{0, 1, 16, 50} {
			var ad [][]byte
			for k := range n {
				ad = append(ad, message(byte(11*k), (5+13*k)%50))
			}
			check(t, message(3, 32), ad, message(40, size))
			check(t, message(3, 32), make([][]byte, n), message(40, size))
		}
	}
}

// The greatest lengths, alone and in every place of the longest list.
func TestLongest(t *testing.T) {
	key, long := message(3, 32), message(40, longest)
	for size := longest - 17; size <= longest; size++ {
		check(t, key, nil, long[:size])
	}
	if sealed := check(t, key, [][]byte{long}, long); len(sealed) != api.MaxMessage {
		t.Errorf("Seal of %d bytes returns %d bytes, want %d", longest, len(sealed), api.MaxMessage)
	}
	var all [][]byte
	for k := range mostElements {
		ad := make([][]byte, mostElements)
		ad[k] = long
		check(t, key, ad, message(40, 20))
		all = append(all, long)
	}
	check(t, key, all, long)
}

// plainOf returns plain bytes whose tag without data is a given one: a first part, and a block found backwards.
func plainOf(t *testing.T, key, tag, first []byte) []byte {
	t.Helper()
	c, err := aes.NewCipher(key[:16])
	if err != nil {
		t.Fatal(err)
	}
	last := make([]byte, 16)
	c.Decrypt(last, tag)
	whole, _, e := cmac.Subkeys(key[:16])
	if e != api.OK {
		t.Fatal(e)
	}
	start, e := cmac.Cmac(key[:16], make([]byte, 16)) // what Vector combines the last block with
	if e != api.OK {
		t.Fatal(e)
	}
	before := make([]byte, 16)
	for k := 0; k < len(first); k += 16 {
		for i, x := range first[k : k+16] {
			before[i] ^= x
		}
		c.Encrypt(before, before)
	}
	for k := range last {
		last[k] ^= whole[k] ^ start[k] ^ before[k]
	}
	return append(bytes.Clone(first), last...)
}

// Tags with each of the bits that the counter does not have, and with which its first bytes are carried into.
func TestChosenTags(t *testing.T) {
	for _, s := range []string{
		"00000000000000000000000000000000",
		"00000000000000008000000000000000",
		"00000000000000000000000080000000",
		"00000000000000008000000080000000",
		"00000000000000007fffffff7fffffff",
		"0000000000000000ffffffffffffffff",
		"000000000000000000000000fffffffe",
		"0000000000000000fffffffffffffffe",
		"00000000000000007ffffffffffffffe",
		"80808080808080807080808070808080",
		"80808080808080808080808080808080",
		"ffffffffffffffffffffffffffffffff",
		"fffffffffffffffffffffffffffffffd",
		"f0f1f2f3f4f5f6f7f8f9fafbfcfdfeff",
	} {
		for _, key := range keys() {
			for _, blocks := range []int{0, 1, 2, 5} {
				tag := unhex(t, s)
				sealed := check(t, key, nil, plainOf(t, key, tag, message(40, 16*blocks)))
				if !bytes.Equal(sealed[:16], tag) {
					t.Fatalf("the tag is %x, want %x", sealed[:16], tag)
				}
			}
		}
	}
}

// Nothing as nil and as an empty list are the same, but an element of nothing is one.
func TestNilAndEmpty(t *testing.T) {
	key, none := message(3, 32), []byte{}
	for _, plain := range [][]byte{nil, message(40, 20)} {
		for _, c := range []struct{ a, b [][]byte }{
			{nil, [][]byte{}},
			{[][]byte{nil}, [][]byte{none}},
			{[][]byte{nil, message(5, 9), nil}, [][]byte{none, message(5, 9), none}},
		} {
			a, b := check(t, key, c.a, plain), check(t, key, c.b, append([]byte{}, plain...))
			if !bytes.Equal(a, b) {
				t.Errorf("%d bytes with elements of nil are sealed as %x, with empty ones as %x", len(plain), a, b)
			}
		}
		a, b := check(t, key, nil, plain), check(t, key, [][]byte{nil}, plain)
		if bytes.Equal(a, b) {
			t.Errorf("%d bytes are sealed as %x without data, and with an element of nothing", len(plain), a)
		}
	}
}

// The same arguments give the same sealed bytes, and a nonce as an element other ones.
func TestNonce(t *testing.T) {
	key, plain := message(3, 32), message(40, 50)
	seen := map[string]bool{}
	for n := range 100 {
		ad := [][]byte{message(5, 20), octets.Put(uint64(n), 16)}
		sealed := check(t, key, ad, plain)
		again, _ := aead.Seal(key, ad, plain)
		if !bytes.Equal(again, sealed) {
			t.Errorf("the same bytes are sealed as %x and as %x", sealed, again)
		}
		seen[string(sealed[:16])], seen[string(sealed[16:])] = true, true
	}
	if len(seen) != 200 {
		t.Errorf("100 nonces give %d tags and streams, want 200", len(seen))
	}
}
