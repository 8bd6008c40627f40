package cipher_test

import (
	"bytes"
	"crypto/aes"
	stream "crypto/cipher"
	"math/big"
	"testing"

	"sectime/api"
	"sectime/cipher"
	"sectime/octets"
)

// counters with carries of every length: none, and over each number of bytes up to all.
func counters() [][]byte {
	l := [][]byte{make([]byte, 16), message(3, 16)}
	for size := 1; size <= 16; size++ {
		full := append(message(40, 16-size), bytes.Repeat([]byte{255}, size)...)
		before, after := bytes.Clone(full), message(40, 16)
		before[15]--
		after[15] = 255
		after[16-size] = 254
		l = append(l, full, before, after)
	}
	return l
}

// standardStream is Stream of the library.
func standardStream(t *testing.T, key, counter, b []byte) []byte {
	t.Helper()
	c, err := aes.NewCipher(key)
	if err != nil {
		t.Fatal(err)
	}
	out := make([]byte, len(b))
	stream.NewCTR(c, counter).XORKeyStream(out, b)
	return out
}

func TestNext(t *testing.T) {
	for _, c := range []struct{ counter, want string }{
		{"00000000000000000000000000000000", "00000000000000000000000000000001"},
		{"000000000000000000000000000000ff", "00000000000000000000000000000100"},
		{"f0f1f2f3f4f5f6f7f8f9fafbfcfdfeff", "f0f1f2f3f4f5f6f7f8f9fafbfcfdff00"},
		{"0000000000000000ffffffffffffffff", "00000000000000010000000000000000"},
		{"00ffffffffffffffffffffffffffffff", "01000000000000000000000000000000"},
		{"fffffffffffffffffffffffffffffffe", "ffffffffffffffffffffffffffffffff"},
		{"ffffffffffffffffffffffffffffffff", "00000000000000000000000000000000"},
	} {
		if got := octets.Hex(cipher.Next(unhex(t, c.counter))); got != c.want {
			t.Errorf("Next(%s) = %s, want %s", c.counter, got, c.want)
		}
	}
	all := new(big.Int).Lsh(big.NewInt(1), 128)
	for _, counter := range counters() {
		n := new(big.Int).SetBytes(counter)
		want := n.Add(n, big.NewInt(1)).Mod(n, all).FillBytes(make([]byte, 16))
		if got := cipher.Next(counter); !bytes.Equal(got, want) {
			t.Errorf("Next(%x) = %x, want %x", counter, got, want)
		}
	}
}

func TestNextOfOtherLengths(t *testing.T) {
	for size := range 70 {
		for _, counter := range [][]byte{message(3, size), bytes.Repeat([]byte{255}, size)} {
			if got := cipher.Next(counter); size != 16 && len(got) != 0 {
				t.Errorf("Next of %d bytes is %x, want nothing", size, got)
			}
		}
	}
	if got := cipher.Next(nil); len(got) != 0 {
		t.Errorf("Next of nil is %x, want nothing", got)
	}
}

// The streams of SP 800-38A, cut at every length.
func TestKnownStream(t *testing.T) {
	key, counter := unhex(t, "2b7e151628aed2a6abf7158809cf4f3c"), unhex(t, "f0f1f2f3f4f5f6f7f8f9fafbfcfdfeff")
	plain := unhex(t, "6bc1bee22e409f96e93d7e117393172aae2d8a571e03ac9c9eb76fac45af8e5130c81c46a35ce411e5fbc1191a0a52eff69f2445df4f9b17ad2b417be66c3710")
	want := "874d6191b620e3261bef6864990db6ce9806f66b7970fdff8617187bb9fffdff5ae4df3edbd5d35e5b4f09020db03eab1e031dda2fbe03d1792170a0f3009cee"
	for n := range len(plain) + 1 {
		if b, e := cipher.Stream(key, counter, plain[:n]); e != api.OK || octets.Hex(b) != want[:2*n] {
			t.Errorf("Stream of %d bytes is %x and %v, want %s", n, b, e, want[:2*n])
		}
	}
}

// Counters that carry, and wrap, within the stream.
func TestStream(t *testing.T) {
	key := message(3, 16)
	for _, counter := range counters() {
		for size := range 70 {
			b := message(90, size)
			want := standardStream(t, key, counter, b)
			got, e := cipher.Stream(key, counter, b)
			if e != api.OK || !bytes.Equal(got, want) {
				t.Errorf("Stream of %d bytes from %x on is %x and %v, want %x", size, counter, got, e, want)
			}
			if back, e := cipher.Stream(key, counter, got); e != api.OK || !bytes.Equal(back, b) {
				t.Errorf("Stream of %d bytes from %x on does not undo itself: %x and %v", size, counter, back, e)
			}
		}
	}
}

// Stream without plain bytes shows its masks: the blocks of the counters.
func TestMasksOfStream(t *testing.T) {
	key := message(3, 16)
	for _, counter := range counters() {
		masks, e := cipher.Stream(key, counter, make([]byte, 80))
		if e != api.OK || len(masks) != 80 {
			t.Fatalf("Stream of 80 bytes is %x and %v", masks, e)
		}
		for k := range 5 {
			want, _ := cipher.Block(key, counter)
			if got := masks[16*k : 16*k+16]; !bytes.Equal(got, want) {
				t.Errorf("mask %d is %x, want %x, the block of %x", k, got, want, counter)
			}
			counter = cipher.Next(counter)
		}
	}
}

func TestPartsOfStream(t *testing.T) {
	key, counter, b := message(3, 16), bytes.Repeat([]byte{255}, 16), message(90, 100)
	all, _ := cipher.Stream(key, counter, b)
	for at := 0; at < len(b); at += 16 {
		for end := at; end <= len(b); end++ {
			if part, e := cipher.Stream(key, counter, b[at:end]); e != api.OK || !bytes.Equal(part, all[at:end]) {
				t.Errorf("Stream of the bytes from %d to %d is %x and %v, want %x", at, end, part, e, all[at:end])
			}
		}
		counter = cipher.Next(counter)
	}
}

func TestLongestStream(t *testing.T) {
	key, counter := message(3, 16), append(message(40, 13), 255, 240, 0)
	for size := api.MaxMessage - 17; size <= api.MaxMessage; size++ {
		b := message(90, size)
		want := standardStream(t, key, counter, b)
		if got, e := cipher.Stream(key, counter, b); e != api.OK || !bytes.Equal(got, want) {
			t.Errorf("Stream of %d bytes returns %d bytes and %v, or they are wrong", size, len(got), e)
		}
	}
}

func TestErrorsOfStream(t *testing.T) {
	right, long := message(3, 16), make([]byte, api.MaxMessage+1)
	for _, c := range []struct {
		key, counter, b []byte
		want            api.Errno
	}{
		{nil, nil, nil, api.ErrKey},
		{nil, right, right, api.ErrKey},
		{nil, nil, long, api.ErrKey},
		{right[1:], right, nil, api.ErrKey},
		{right[1:], right[1:], long, api.ErrKey},
		{message(3, 17), right, right, api.ErrKey},
		{message(3, 24), right, right, api.ErrKey},
		{message(3, 32), right, long, api.ErrKey},
		{right, nil, nil, api.ErrForm},
		{right, nil, long, api.ErrForm},
		{right, right[1:], right, api.ErrForm},
		{right, message(3, 17), long, api.ErrForm},
		{right, right[:8], nil, api.ErrForm},
		{right, right, long, api.ErrLong},
		{right, right, make([]byte, api.MaxMessage+16), api.ErrLong},
		{right, right, nil, api.OK},
		{right, right, []byte{}, api.OK},
	} {
		if b, e := cipher.Stream(c.key, c.counter, c.b); e != c.want || len(b) != 0 {
			t.Errorf("Stream with %d, %d and %d bytes returns %d bytes and %v, want none and %v", len(c.key), len(c.counter), len(c.b), len(b), e, c.want)
		}
	}
}
