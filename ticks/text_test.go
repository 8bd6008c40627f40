package ticks_test

import (
	"math"
	"math/rand"
	"strings"
	"testing"

	"sectime/ticks"
)

func TestKnownTexts(t *testing.T) {
	for _, c := range []struct {
		t    int
		want string
	}{
		{0, "0.0000000"},
		{1, "0.0000001"},
		{10, "0.0000010"},
		{123456, "0.0123456"},
		{second - 1, "0.1048575"},
		{second, "1.0000000"},
		{second + 5, "1.0000005"},
		{1572864, "1.0524288"},
		{10 * second, "10.0000000"},
		{-1, "-1.1048575"},
		{-second + 1, "-1.0000001"},
		{-second, "-1.0000000"},
		{-second - 1, "-2.1048575"},
		{-10 * second, "-10.0000000"},
		{most - 1, "1099511627775.1048575"},
		{most, "1099511627776.0000000"},
		{-most + 1, "-1099511627776.0000001"},
		{-most, "-1099511627776.0000000"},
	} {
		if got := ticks.Format(c.t); got != c.want {
			t.Errorf("Format of %d is %q, want %q", c.t, got, c.want)
		}
		if got, ok := ticks.Parse(c.want); !ok || got != c.t {
			t.Errorf("Parse of %q is %d and %v, want %d", c.want, got, ok, c.t)
		}
	}
}

func TestFormat(t *testing.T) {
	for _, n := range anyTicks() {
		if got, want := ticks.Format(n), standardFormat(n); got != want {
			t.Errorf("Format of %d is %q, want %q", n, got, want)
		}
	}
}

func TestParse(t *testing.T) {
	for _, n := range valids() {
		if got, ok := ticks.Parse(standardFormat(n)); !ok || got != n {
			t.Errorf("Parse of %q is %d and %v, want %d", standardFormat(n), got, ok, n)
		}
	}
}

// Format has a text for any number, Parse a number only if it is valid.
func TestTextsOfInvalidTicks(t *testing.T) {
	for n, want := range map[int]string{
		most + 1:      "1099511627776.0000001",
		-most - 1:     "-1099511627777.1048575",
		math.MaxInt:   "8796093022207.1048575",
		math.MinInt:   "-8796093022208.0000000",
		-most - 1<<20: "-1099511627777.0000000",
	} {
		if got := ticks.Format(n); got != want {
			t.Errorf("Format of %d is %q, want %q", n, got, want)
		}
	}
	for _, n := range invalids() {
		checkNoText(t, standardFormat(n))
	}
}

// checkNoText checks that s is the Format of nothing.
func checkNoText(t *testing.T, s string) {
	t.Helper()
	if got, ok := ticks.Parse(s); ok || got != 0 {
		t.Errorf("Parse of %.80q is %d and %v, want 0 and false", s, got, ok)
	}
}

func TestWrongTexts(t *testing.T) {
	for _, s := range []string{
		"", ".", "-", "-.", "0", "1", "-1", "1.", ".0000001", "-.0000001", "0000000", "10000000",
		"1.0", "1.000000", "1.00000000", "1.00000001", "1.10485750", "1.1048575.", "1..0000000", ".1.0000000", "1.0000000.0000000", "1.000.0000",
		"01.0000000", "00.0000000", "-01.0000000", "00000000000001.0000000", ".0000000", "-.0000000",
		"-0.0000000", "-0.0000001", "-0.1048575", "--1.0000000", "1-.0000000", "-+1.0000000", "+1.0000000", "+0.0000000",
		"1.-000001", "1.-0000001", "1.+000001", "-1.-000001", "--", "1.-",
		"0.1048576", "1.1048576", "-1.1048576", "1.2097152", "1.9999999", "1.1050000",
		" 1.0000000", "1.0000000 ", "1 .0000000", "1. 000000", "1.0000000\n", "\t1.0000000", "1.0000000\x00", "\x001.0000000",
		"1,0000000", "1:0000000", "1/0000000", "1.000000a", "a.0000000", "0x1.0000000", "1e1.0000000", "1_0.0000000", "1.000_000", "1.00000e1",
		"1.000000/", "1.000000:", "/.0000000", ":.0000000",
		"\u0661.0000000", "1.000000\u0661", "1.00000\u0661", "\uff11.0000000", "\xff.0000000", "1.000000\xff", "1.0000000\xff", "\xe2\x88\x921.0000000",
		"inf", "NaN", "1.0000000s",
	} {
		checkNoText(t, s)
		if _, ok := standardParse(s); ok {
			t.Errorf("%q has the form", s)
		}
	}
}

// The seconds here are too many, also in the last bits that an int or the product with a second's ticks would keep.
func TestTooManySeconds(t *testing.T) {
	for _, s := range []string{
		"1099511627776.0000001", "1099511627777.0000000", "-1099511627777.0000000", "-1099511627777.1048575", "10995116277760.0000000",
		"8796093022208.0000000", "17592186044416.0000000", "17592186044417.0000000", "35184372088833.0000005", "-17592186044417.0000000",
		"9223372036854775807.0000000", "9223372036854775808.0000000", "-9223372036854775808.0000000", "-9223372036854775809.0000000",
		"18446744073709551615.0000000", "18446744073709551616.0000000", "18446744073709551617.0000000", "-18446744073709551617.0000000",
		"36893488147419103233.0000000", "99999999999999999999.0000000", "340282366920938463463374607431768211457.0000000",
		"1.18446744073709551617", "1.18446744073709551616", "0.9223372036854775808",
	} {
		checkNoText(t, s)
	}
}

func TestLongTexts(t *testing.T) {
	for _, c := range []string{"0", "1", "9", "-", ".", " ", "a", "\xff", "1.0000000"} {
		long := strings.Repeat(c, 1<<20)
		for _, s := range []string{long, long + ".0000000", "-" + long + ".0000000", "1." + long, "1.0000000" + long, long + "1.0000000"} {
			checkNoText(t, s)
		}
	}
}

// All texts of few characters, and all that differ in a character from the Format of something.
func TestTextsBesides(t *testing.T) {
	const characters = "0123456789.-+/: e\xff\x00"
	check := func(s string) {
		t.Helper()
		want, wantOk := standardParse(s)
		if got, ok := ticks.Parse(s); got != want || ok != wantOk {
			t.Errorf("Parse of %q is %d and %v, want %d and %v", s, got, ok, want, wantOk)
		}
	}
	for _, a := range characters {
		for _, b := range characters {
			check(string(a) + string(b))
			check(string(a) + string(b) + ".0000000")
			check("1." + string(a) + "00000" + string(b))
		}
	}
	for _, n := range []int{0, 5, -1, second, -second, 12*second + 34, 98765*second + 1048575, most, -most, most - 1, 1 - most} {
		s := standardFormat(n)
		for k := range len(s) + 1 {
			check(s[:k])
			check(s[k:])
			for _, c := range []byte(characters) {
				check(s[:k] + string([]byte{c}) + s[k:])
				if k < len(s) {
					check(s[:k] + string([]byte{c}) + s[k+1:])
				}
			}
			if k < len(s) {
				check(s[:k] + s[k+1:])
			}
		}
	}
	r := rand.New(rand.NewSource(14))
	for range 20000 {
		b := make([]byte, 8+r.Intn(16))
		for k := range b {
			b[k] = byte('0' + r.Intn(10))
		}
		// Mostly with less than a second behind the point, as other texts are refused anyway.
		b[len(b)-8], b[len(b)-7] = '.', byte('0'+r.Intn(4)/3)
		if r.Intn(2) == 0 {
			b[0] = '-'
		}
		check(string(b))
	}
}
