package cipher_test

import (
	"bytes"
	"crypto/aes"
	"testing"

	"sectime/api"
	"sectime/cipher"
	"sectime/octets"
)

// message returns size bytes that begin with a given one, of which no block is like another one.
func message(first byte, size int) []byte {
	b := make([]byte, size)
	for k := range b {
		b[k] = first + byte(k*7+k>>4)
	}
	return b
}

// unhex returns the bytes of a text, which a mistyped one has not.
func unhex(t *testing.T, s string) []byte {
	t.Helper()
	b, ok := octets.Unhex(s)
	if !ok {
		t.Fatalf("%q is not hexadecimal", s)
	}
	return b
}

// standard is Block of the library.
func standard(t *testing.T, key, in []byte) []byte {
	t.Helper()
	c, err := aes.NewCipher(key)
	if err != nil {
		t.Fatal(err)
	}
	out := make([]byte, len(in))
	c.Encrypt(out, in)
	return out
}

// schedule finds the round keys word by word, as the chapter says.
func schedule(key []byte) [][]byte {
	constants := []byte{1, 2, 4, 8, 16, 32, 64, 128, 27, 54}
	var words [44][4]byte
	for i := range words {
		if i < 4 {
			copy(words[i][:], key[4*i:])
			continue
		}
		t := words[i-1]
		if i%4 == 0 {
			t = [4]byte{replacement(t[1]) ^ constants[i/4-1], replacement(t[2]), replacement(t[3]), replacement(t[0])}
		}
		for k := range t {
			words[i][k] = words[i-4][k] ^ t[k]
		}
	}
	l := make([][]byte, 11)
	for i, w := range words {
		l[i/4] = append(l[i/4], w[:]...)
	}
	return l
}

// checkBlock compares Block with the library's.
func checkBlock(t *testing.T, key, in []byte) {
	t.Helper()
	want := standard(t, key, in)
	if got, e := cipher.Block(key, in); e != api.OK || !bytes.Equal(got, want) {
		t.Errorf("Block(%x, %x) = %x, %v, want %x", key, in, got, e, want)
	}
}

// bits16 returns 16 zeros, and 16 bytes of which one bit is 1, for each of the bits.
func bits16() [][]byte {
	l := [][]byte{make([]byte, 16)}
	for k := range 128 {
		b := make([]byte, 16)
		b[k/8] = 1 << (k % 8)
		l = append(l, b)
	}
	return l
}

// The round keys of appendix A.1 of FIPS 197.
func TestKnownKeys(t *testing.T) {
	want := []string{
		"2b7e151628aed2a6abf7158809cf4f3c", "a0fafe1788542cb123a339392a6c7605", "f2c295f27a96b9435935807a7359f67f",
		"3d80477d4716fe3e1e237e446d7a883b", "ef44a541a8525b7fb671253bdb0bad00", "d4d1c6f87c839d87caf2b8bc11f915bc",
		"6d88a37a110b3efddbf98641ca0093fd", "4e54f70e5f5fc9f384a64fb24ea6dc4f", "ead27321b58dbad2312bf5607f8d292f",
		"ac7766f319fadc2128d12941575c006e", "d014f9a8c9ee2589e13f0cc8b6630ca6",
	}
	l, e := cipher.Keys(unhex(t, want[0]))
	if e != api.OK || len(l) != len(want) {
		t.Fatalf("Keys returns %d round keys and %v, want %d", len(l), e, len(want))
	}
	for k := range want {
		if got := octets.Hex(l[k]); got != want[k] {
			t.Errorf("round key %d is %s, want %s", k, got, want[k])
		}
	}
}

func TestKeys(t *testing.T) {
	keys := append(bits16(), bytes.Repeat([]byte{255}, 16))
	for k := range 20 {
		keys = append(keys, message(byte(13*k), 16))
	}
	for _, key := range keys {
		want := schedule(key)
		l, e := cipher.Keys(key)
		if e != api.OK || len(l) != len(want) {
			t.Fatalf("Keys(%x) returns %d round keys and %v, want %d", key, len(l), e, len(want))
		}
		for k := range want {
			if !bytes.Equal(l[k], want[k]) {
				t.Errorf("round key %d of Keys(%x) is %x, want %x", k, key, l[k], want[k])
			}
		}
	}
}

// The blocks of FIPS 197 and of SP 800-38A.
func TestKnownBlocks(t *testing.T) {
	key := "2b7e151628aed2a6abf7158809cf4f3c"
	for _, c := range []struct{ key, in, want string }{
		{"000102030405060708090a0b0c0d0e0f", "00112233445566778899aabbccddeeff", "69c4e0d86a7b0430d8cdb78070b4c55a"},
		{key, "3243f6a8885a308d313198a2e0370734", "3925841d02dc09fbdc118597196a0b32"},
		{key, "6bc1bee22e409f96e93d7e117393172a", "3ad77bb40d7a3660a89ecaf32466ef97"},
		{key, "ae2d8a571e03ac9c9eb76fac45af8e51", "f5d3d58503b9699de785895a96fdbaaf"},
		{key, "30c81c46a35ce411e5fbc1191a0a52ef", "43b1cd7f598ece23881b00e3ed030688"},
		{key, "f69f2445df4f9b17ad2b417be66c3710", "7b0c785e27e8ad3f8223207104725dd4"},
	} {
		if b, e := cipher.Block(unhex(t, c.key), unhex(t, c.in)); e != api.OK || octets.Hex(b) != c.want {
			t.Errorf("Block(%s, %s) = %x, %v, want %s", c.key, c.in, b, e, c.want)
		}
	}
}

// Every bit of the key and of the block, alone and together with a pattern.
func TestBlock(t *testing.T) {
	ones := bytes.Repeat([]byte{255}, 16)
	checkBlock(t, ones, ones)
	for _, b := range bits16() {
		for _, other := range [][]byte{make([]byte, 16), ones, message(3, 16), b} {
			checkBlock(t, b, other)
			checkBlock(t, other, b)
		}
	}
}

// Blocks that follow from one another, each of them the key of the next one.
func TestChainOfBlocks(t *testing.T) {
	key, in := message(3, 16), message(90, 16)
	for k := range 2000 {
		want := standard(t, key, in)
		out, e := cipher.Block(key, in)
		if e != api.OK || !bytes.Equal(out, want) {
			t.Fatalf("block %d, Block(%x, %x), is %x and %v, want %x", k, key, in, out, e, want)
		}
		key, in = in, out
	}
}

// All lengths but the right one, those of the other kinds of AES keys among them.
func TestLengthsOfKeysAndBlocks(t *testing.T) {
	right := message(3, 16)
	for size := range 70 {
		b := message(90, size)
		wrong := size != 16
		want := api.OK
		if wrong {
			want = api.ErrKey
		}
		if l, e := cipher.Keys(b); e != want || wrong && len(l) != 0 {
			t.Errorf("Keys of %d bytes returns %x and %v, want %v", size, l, e, want)
		}
		for _, in := range [][]byte{right, nil, right[1:]} {
			if out, e := cipher.Block(b, in); wrong && (e != api.ErrKey || len(out) != 0) {
				t.Errorf("Block with a key of %d bytes of %d bytes returns %x and %v, want nothing and ErrKey", size, len(in), out, e)
			}
		}
		if out, e := cipher.Block(right, b); wrong && (e != api.ErrForm || len(out) != 0) {
			t.Errorf("Block of %d bytes returns %x and %v, want nothing and ErrForm", size, out, e)
		}
	}
	for _, none := range [][]byte{nil, {}, message(3, 17)[16:16]} {
		if l, e := cipher.Keys(none); e != api.ErrKey || len(l) != 0 {
			t.Errorf("Keys of nothing returns %x and %v, want nothing and ErrKey", l, e)
		}
	}
}
