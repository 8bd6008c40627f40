package onetime_test

import (
	"bytes"
	"fmt"
	"slices"
	"strconv"
	"testing"

	"sectime/api"
	"sectime/onetime"
)

// message returns size bytes that depend on first.
func message(first byte, size int) []byte {
	b := make([]byte, size)
	for k := range b {
		b[k] = first + byte(k*7+k>>6)
	}
	return b
}

// number reads a text of digits to the base 16.
func number(t *testing.T, text string) int {
	t.Helper()
	n, err := strconv.ParseInt(text, 16, 64)
	if err != nil {
		t.Fatal(err)
	}
	return int(n)
}

// standardDigits is Digits as the chapter defines it, read from texts.
func standardDigits(t *testing.T, digest []byte) []int {
	t.Helper()
	text, sum := fmt.Sprintf("%x", digest), 0
	for k := range text {
		sum += 15 - number(t, text[k:k+1])
	}
	text += fmt.Sprintf("%03x", sum)
	var l []int
	for k := range text {
		l = append(l, number(t, text[k:k+1]))
	}
	return l
}

// digests are those with one digit of each value in each place among the least, middle and greatest digits, and others.
func digests() [][]byte {
	var l [][]byte
	for _, others := range []byte{0x00, 0x88, 0xff} {
		for k := range 16 {
			for d := range byte(16) {
				upper, lower := bytes.Repeat([]byte{others}, 16), bytes.Repeat([]byte{others}, 16)
				upper[k] = d<<4 | others&15
				lower[k] = others&0xf0 | d
				l = append(l, upper, lower)
			}
		}
	}
	for k := range 100 {
		l = append(l, short([]byte{byte(k)}))
	}
	// From the greatest sum down to 0, so that each value of its three digits is there.
	for ones := range 33 {
		b := make([]byte, 16)
		for k := range ones {
			b[k/2] += 15 << (4 * (k % 2))
		}
		l = append(l, b)
	}
	return l
}

func TestKnownDigits(t *testing.T) {
	for _, c := range []struct {
		digest []byte
		want   []int
	}{
		{make([]byte, 16), append(make([]int, 32), 1, 14, 0)},
		{bytes.Repeat([]byte{0xff}, 16), append(slices.Repeat([]int{15}, 32), 0, 0, 0)},
		{bytes.Repeat([]byte{0xf0}, 16), append(slices.Repeat([]int{15, 0}, 16), 0, 15, 0)},
		{bytes.Repeat([]byte{0x0f}, 16), append(slices.Repeat([]int{0, 15}, 16), 0, 15, 0)},
		{bytes.Repeat([]byte{0x77}, 16), append(slices.Repeat([]int{7}, 32), 1, 0, 0)},
		{append([]byte{0xef}, bytes.Repeat([]byte{0xff}, 15)...), append([]int{14}, append(slices.Repeat([]int{15}, 31), 0, 0, 1)...)},
		{append(make([]byte, 15), 0x01), append(make([]int, 31), 1, 1, 13, 15)},
		{short([]byte("abc")), []int{11, 10, 7, 8, 1, 6, 11, 15, 8, 15, 0, 1, 12, 15, 14, 10, 4, 1, 4, 1, 4, 0, 13, 14, 5, 13, 10, 14, 2, 2, 2, 3, 0, 15, 4}},
	} {
		if got, e := onetime.Digits(c.digest); e != api.OK || !slices.Equal(got, c.want) {
			t.Errorf("Digits of %x are %v and %v, want %v", c.digest, got, e, c.want)
		}
	}
}

func TestDigits(t *testing.T) {
	for _, digest := range digests() {
		got, e := onetime.Digits(digest)
		if want := standardDigits(t, digest); e != api.OK || !slices.Equal(got, want) {
			t.Errorf("Digits of %x are %v and %v, want %v", digest, got, e, want)
		}
		if len(got) != api.Chains || slices.Min(got) < 0 || slices.Max(got) > 15 {
			t.Errorf("Digits of %x are %v: not %d from 0 to 15", digest, got, api.Chains)
		}
	}
}

// less reports whether some digit of b is less than that of a.
func less(a, b []int) bool {
	for k := range a {
		if b[k] < a[k] {
			return true
		}
	}
	return false
}

// For two different digests, some digit of the second one is less than that of the first one.
func TestNoDigestLiesBehindAnother(t *testing.T) {
	l := digests()
	var all [][]int
	for _, digest := range l {
		digits, _ := onetime.Digits(digest)
		all = append(all, digits)
	}
	for i, a := range all {
		for j, b := range all {
			if !bytes.Equal(l[i], l[j]) && !less(a, b) {
				t.Fatalf("no digit of %x is less than that of %x: %v and %v", l[j], l[i], b, a)
			}
		}
	}
}

func TestLengthsOfDigests(t *testing.T) {
	for size := range 100 {
		digits, e := onetime.Digits(message(3, size))
		if size == 16 {
			if e != api.OK {
				t.Errorf("Digits of 16 bytes: %v", e)
			}
		} else if e != api.ErrForm || len(digits) != 0 {
			t.Errorf("Digits of %d bytes are %v and %v, want none and ErrForm", size, digits, e)
		}
	}
	for _, digest := range [][]byte{nil, {}, make([]byte, 1<<20), make([]byte, 15, 16), make([]byte, 16, 32)[:17]} {
		if digits, e := onetime.Digits(digest); e != api.ErrForm || len(digits) != 0 {
			t.Errorf("Digits of %d bytes are %v and %v, want none and ErrForm", len(digest), digits, e)
		}
	}
}
