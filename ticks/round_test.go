package ticks_test

import (
	"math"
	"math/big"
	"testing"

	"sectime/api"
	"sectime/ticks"
)

// checkRounded checks both results of a function with two numbers that it takes.
func checkRounded(t *testing.T, name string, f func(a, b int, up bool) (int, api.Errno), a, b int, numerator, divisor *big.Int) {
	t.Helper()
	for _, up := range []bool{false, true} {
		want := rounded(numerator, divisor, up)
		if got, e := f(a, b, up); e != api.OK || number(got).Cmp(want) != 0 {
			t.Errorf("%s of %d and %d, up %v, is %d and %v, want %v", name, a, b, up, got, e, want)
		}
	}
}

// checkRefused checks that a function with two numbers refuses them.
func checkRefused(t *testing.T, name string, f func(a, b int, up bool) (int, api.Errno), a, b int) {
	t.Helper()
	for _, up := range []bool{false, true} {
		if got, e := f(a, b, up); e != api.ErrRange || got != 0 {
			t.Errorf("%s of %d and %d, up %v, is %d and %v, want 0 and ErrRange", name, a, b, up, got, e)
		}
	}
}

func TestKnownQuotients(t *testing.T) {
	for _, c := range []struct{ a, b, down, up int }{
		{0, 1, 0, 0},
		{0, math.MaxInt, 0, 0},
		{7, 2, 3, 4},
		{-7, 2, -4, -3},
		{8, 2, 4, 4},
		{-8, 2, -4, -4},
		{1, 3, 0, 1},
		{-1, 3, -1, 0},
		{2, 3, 0, 1},
		{-2, 3, -1, 0},
		{most, 1, most, most},
		{-most, 1, -most, -most},
		{most, most, 1, 1},
		{-most, most, -1, -1},
		{most - 1, most, 0, 1},
		{1 - most, most, -1, 0},
		{most, most - 1, 1, 2},
		{-most, most - 1, -2, -1},
		{most, math.MaxInt, 0, 1},
		{-most, math.MaxInt, -1, 0},
	} {
		down, e := ticks.Divide(c.a, c.b, false)
		up, e2 := ticks.Divide(c.a, c.b, true)
		if e != api.OK || e2 != api.OK || down != c.down || up != c.up {
			t.Errorf("%d / %d is %d and %d, %v and %v, want %d and %d", c.a, c.b, down, up, e, e2, c.down, c.up)
		}
	}
}

func TestDivide(t *testing.T) {
	for a := -40; a <= 40; a++ {
		for b := 1; b <= 40; b++ {
			checkRounded(t, "Divide", ticks.Divide, a, b, number(a), number(b))
		}
	}
	divisors := []int{1, 2, 3, 7, 10, 1000, second, 1000000000, most - 1, most, most + 1, math.MaxInt - 1, math.MaxInt}
	all := valids()
	for k, a := range all {
		b := divisors[k%len(divisors)]
		checkRounded(t, "Divide", ticks.Divide, a, b, number(a), number(b))
		if other := all[k*7%len(all)]; other > 0 {
			checkRounded(t, "Divide", ticks.Divide, a, other, number(a), number(other))
		}
	}
}

func TestErrorsOfDivide(t *testing.T) {
	for _, b := range []int{0, -1, -2, -second, -most, math.MinInt, math.MinInt + 1} {
		for _, a := range []int{0, 1, -1, b, most, -most, most + 1, math.MinInt, math.MaxInt} {
			checkRefused(t, "Divide", ticks.Divide, a, b)
		}
	}
	for _, a := range invalids() {
		for _, b := range []int{1, 2, 1000000000, most, math.MaxInt} {
			checkRefused(t, "Divide", ticks.Divide, a, b)
		}
	}
}

func TestKnownScales(t *testing.T) {
	for _, c := range []struct{ d, ppb, down, up int }{
		{0, 0, 0, 0},
		{0, 1000000, 0, 0},
		{most, 0, 0, 0},
		{-most, 0, 0, 0},
		{1, 1, 0, 1},
		{-1, 1, -1, 0},
		{999, 1000000, 0, 1},
		{1000, 1000000, 1, 1},
		{1001, 1000000, 1, 2},
		{-999, 1000000, -1, 0},
		{-1000, 1000000, -1, -1},
		{-1001, 1000000, -2, -1},
		{999999999, 1, 0, 1},
		{1000000000, 1, 1, 1},
		{1000000001, 1, 1, 2},
		{-999999999, 1, -1, 0},
		{-1000000000, 1, -1, -1},
		{-1000000001, 1, -2, -1},
		{1 << 40, 1000, 1099511, 1099512},
		{most, 1, 1152921504, 1152921505},
		{most, 1000000, 1152921504606846, 1152921504606847},
		{-most, 1000000, -1152921504606847, -1152921504606846},
		{1152921504 * 1000000000, 1000000, 1152921504000000, 1152921504000000},
	} {
		down, e := ticks.Scale(c.d, c.ppb, false)
		up, e2 := ticks.Scale(c.d, c.ppb, true)
		if e != api.OK || e2 != api.OK || down != c.down || up != c.up {
			t.Errorf("%d ppb of %d are %d and %d, %v and %v, want %d and %d", c.ppb, c.d, down, up, e, e2, c.down, c.up)
		}
	}
}

func TestScale(t *testing.T) {
	bounds := []int{0, 1, 2, 3, 7, 1000, 1024, 15625, 100000, 123457, 999999, 1000000}
	for k, d := range valids() {
		for _, ppb := range []int{bounds[k%len(bounds)], 1000000, k * 999983 % 1000001} {
			checkRounded(t, "Scale", ticks.Scale, d, ppb, product(d, ppb), number(1000000000))
		}
	}
}

func TestErrorsOfScale(t *testing.T) {
	for _, ppb := range []int{-1, -2, -1000000, math.MinInt, 1000001, 1000002, 1000000000, 1 << 32, 1 << 32 * 5, 1 << 60, math.MaxInt} {
		for _, d := range []int{0, 1, -1, 1000000000, most, -most, most + 1, math.MinInt, math.MaxInt} {
			checkRefused(t, "Scale", ticks.Scale, d, ppb)
		}
	}
	for _, d := range invalids() {
		for _, ppb := range []int{0, 1, 1000000} {
			checkRefused(t, "Scale", ticks.Scale, d, ppb)
		}
	}
}
