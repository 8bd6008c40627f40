package cmac_test

import (
	"bytes"
	"crypto/aes"
	"crypto/cipher"
	"testing"

	"sectime/api"
	"sectime/cmac"
	"sectime/octets"
)

// message returns size bytes that begin with a given one, of which no block is like another one.
func message(first byte, size int) []byte {
	b := make([]byte, size)
	for k := range b {
		b[k] = first + byte(k*7+k>>4)
	}
	return b
}

// unhex returns the bytes of a text, which a mistyped one has not.
func unhex(t *testing.T, s string) []byte {
	t.Helper()
	b, ok := octets.Unhex(s)
	if !ok {
		t.Fatalf("%q is not hexadecimal", s)
	}
	return b
}

// xor returns two lists of the same length, combined.
func xor(a, b []byte) []byte {
	out := bytes.Clone(a)
	for k := range out {
		out[k] ^= b[k]
	}
	return out
}

// marked returns b with a mark and zeros behind it, up to a full block.
func marked(b []byte) []byte {
	b = append(bytes.Clone(b), 128)
	for len(b)%16 != 0 {
		b = append(b, 0)
	}
	return b
}

// standard is Cmac as the last block of the library's CBC, of a message whose last block is combined with its subkey.
func standard(t *testing.T, key, b []byte) []byte {
	t.Helper()
	c, err := aes.NewCipher(key)
	if err != nil {
		t.Fatal(err)
	}
	sub := make([]byte, 16)
	c.Encrypt(sub, sub)
	sub = twice(sub)
	full := bytes.Clone(b)
	if len(b) == 0 || len(b)%16 != 0 {
		full = marked(b)
		sub = twice(sub)
	}
	at := len(full) - 16
	copy(full[at:], xor(full[at:], sub))
	cipher.NewCBCEncrypter(c, make([]byte, 16)).CryptBlocks(full, full)
	return full[at:]
}

// The examples of RFC 4493, and that of 20 bytes of SP 800-38B.
func TestKnownCodes(t *testing.T) {
	key := unhex(t, "2b7e151628aed2a6abf7158809cf4f3c")
	text := unhex(t, "6bc1bee22e409f96e93d7e117393172aae2d8a571e03ac9c9eb76fac45af8e5130c81c46a35ce411e5fbc1191a0a52eff69f2445df4f9b17ad2b417be66c3710")
	for _, c := range []struct {
		size int
		want string
	}{
		{0, "bb1d6929e95937287fa37d129b756746"},
		{16, "070a16b46b4d4144f79bdd9dd04a287c"},
		{20, "7d85449ea6ea19c823a7bf78837dfade"},
		{40, "dfa66747de9ae63030ca32611497c827"},
		{64, "51f0bebf7e3b9d92fc49741779363cfe"},
	} {
		if b, e := cmac.Cmac(key, text[:c.size]); e != api.OK || octets.Hex(b) != c.want {
			t.Errorf("Cmac of %d bytes is %x and %v, want %s", c.size, b, e, c.want)
		}
	}
	if b, e := cmac.Cmac(key, nil); e != api.OK || octets.Hex(b) != "bb1d6929e95937287fa37d129b756746" {
		t.Errorf("Cmac of nil is %x and %v, want that of an empty list", b, e)
	}
}

// Every place of the end in a block, with several keys.
func TestCmacOfAllLengths(t *testing.T) {
	for _, key := range [][]byte{make([]byte, 16), bytes.Repeat([]byte{255}, 16), message(3, 16), message(90, 16), message(91, 16), message(92, 16)} {
		for size := range 130 {
			for _, b := range [][]byte{message(40, size), make([]byte, size), bytes.Repeat([]byte{255}, size)} {
				want := standard(t, key, b)
				if got, e := cmac.Cmac(key, b); e != api.OK || !bytes.Equal(got, want) {
					t.Errorf("Cmac(%x, %x) = %x, %v, want %x", key, b, got, e, want)
				}
			}
		}
	}
}

// A message that is shorter than its last block differs from the one that has the mark and the zeros in it.
func TestMarksAreNoMessage(t *testing.T) {
	key := message(3, 16)
	for size := range 64 {
		b := message(40, size)
		short, _ := cmac.Cmac(key, b)
		full, _ := cmac.Cmac(key, marked(b))
		if bytes.Equal(short, full) {
			t.Errorf("Cmac of %d bytes is that of these bytes with a mark behind them, %x", size, short)
		}
	}
}

func TestLongestCmac(t *testing.T) {
	key := message(3, 16)
	for size := api.MaxMessage - 17; size <= api.MaxMessage; size++ {
		b := message(40, size)
		want := standard(t, key, b)
		if got, e := cmac.Cmac(key, b); e != api.OK || !bytes.Equal(got, want) {
			t.Errorf("Cmac of %d bytes is %x and %v, want %x", size, got, e, want)
		}
	}
}

func TestErrorsOfCmac(t *testing.T) {
	right, long := message(3, 16), make([]byte, api.MaxMessage+1)
	for _, c := range []struct {
		key, b []byte
		want   api.Errno
	}{
		{nil, nil, api.ErrKey},
		{nil, long, api.ErrKey},
		{right[1:], right, api.ErrKey},
		{right[1:], long, api.ErrKey},
		{message(3, 17), nil, api.ErrKey},
		{message(3, 17), long, api.ErrKey},
		{right, long, api.ErrLong},
		{right, make([]byte, api.MaxMessage+16), api.ErrLong},
		{right, make([]byte, 2*api.MaxMessage), api.ErrLong},
	} {
		if b, e := cmac.Cmac(c.key, c.b); e != c.want || len(b) != 0 {
			t.Errorf("Cmac with %d and %d bytes returns %x and %v, want nothing and %v", len(c.key), len(c.b), b, e, c.want)
		}
	}
}

// All lengths but the right one, those of the other kinds of AES keys among them.
func TestLengthsOfKeys(t *testing.T) {
	for size := range 70 {
		if size == 16 {
			continue
		}
		key := message(3, size)
		if a, b, e := cmac.Subkeys(key); e != api.ErrKey || len(a) != 0 || len(b) != 0 {
			t.Errorf("Subkeys of %d bytes returns %x, %x and %v, want nothing and ErrKey", size, a, b, e)
		}
		if b, e := cmac.Cmac(key, message(40, 16)); e != api.ErrKey || len(b) != 0 {
			t.Errorf("Cmac with a key of %d bytes returns %x and %v, want nothing and ErrKey", size, b, e)
		}
		if b, e := cmac.Vector(key, [][]byte{message(40, 16)}); e != api.ErrKey || len(b) != 0 {
			t.Errorf("Vector with a key of %d bytes returns %x and %v, want nothing and ErrKey", size, b, e)
		}
	}
	if a, b, e := cmac.Subkeys(nil); e != api.ErrKey || len(a) != 0 || len(b) != 0 {
		t.Errorf("Subkeys of nil returns %x, %x and %v, want nothing and ErrKey", a, b, e)
	}
}
