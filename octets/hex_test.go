package octets_test

import (
	"bytes"
	"strings"
	"testing"

	"sectime/octets"
)

func TestHex(t *testing.T) {
	for _, c := range []struct {
		b    []byte
		want string
	}{
		{nil, ""},
		{[]byte{}, ""},
		{[]byte{0}, "00"},
		{[]byte{0x9a, 0xf0, 0x0f}, "9af00f"},
		{[]byte{0x01, 0x23, 0x45, 0x67, 0x89, 0xab, 0xcd, 0xef}, "0123456789abcdef"},
	} {
		if got := octets.Hex(c.b); got != c.want {
			t.Errorf("Hex(%v) = %q, want %q", c.b, got, c.want)
		}
	}
}

func TestUnhexUndoesHex(t *testing.T) {
	all := make([]byte, 256)
	for k := range all {
		all[k] = byte(k)
		one := all[k : k+1]
		if b, ok := octets.Unhex(octets.Hex(one)); !ok || !bytes.Equal(b, one) {
			t.Errorf("Unhex of Hex of %v is %v, %v", one, b, ok)
		}
	}
	for _, b := range [][]byte{nil, all} {
		if got, ok := octets.Unhex(octets.Hex(b)); !ok || !bytes.Equal(got, b) {
			t.Errorf("Unhex of Hex of %d bytes is %v, %v", len(b), got, ok)
		}
	}
}

// Every pair of bytes is accepted only if it is the Hex of what it gives.
func TestUnhexOfAllPairs(t *testing.T) {
	accepted := 0
	for a := range 256 {
		for b := range 256 {
			s := string([]byte{byte(a), byte(b)})
			got, ok := octets.Unhex(s)
			if ok {
				accepted++
			}
			if ok && octets.Hex(got) != s || !ok && len(got) != 0 {
				t.Errorf("Unhex(%q) = %v, %v", s, got, ok)
			}
		}
	}
	if accepted != 256 {
		t.Errorf("Unhex accepts %d pairs, want 256", accepted)
	}
}

func TestUnhexRefuses(t *testing.T) {
	for _, s := range []string{"0", "000", "0g", "g0", "0A", "A0", "FF", "0x", "0x00", " 00", "00 ", "0 0", "00\n", "--", "\x00\x00", "é", "٣٣", "00zz", "zz00", strings.Repeat("0", 4001)} {
		if b, ok := octets.Unhex(s); ok || len(b) != 0 {
			t.Errorf("Unhex(%q) = %v, %v, want nothing and false", s, b, ok)
		}
	}
}
