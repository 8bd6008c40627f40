package drift_test

import (
	"math"
	"testing"

	"sectime/api"
	"sectime/drift"
)

func checkFits(t *testing.T, e, d, ppb int, want bool) {
	t.Helper()
	if got := drift.Fits(e, d, ppb); got != want {
		t.Fatalf("Fits of %d, %d and %d is %v, want %v", e, d, ppb, got, want)
	}
}

func TestKnownFits(t *testing.T) {
	for _, c := range []struct {
		e, d, ppb int
		want      bool
	}{
		{0, 0, 0, true},
		{0, 0, bound, true},
		{0, 1, bound, false},
		{1, 0, bound, false},
		{1, 1, 0, true},
		{1, 2, bound, false},
		// Both ends of the condition are included.
		{billion, billion + 7, 7, true},
		{billion, billion - 7, 7, true},
		{billion, billion + 8, 7, false},
		{billion, billion - 8, 7, false},
		{billion - 1, billion + 6, 7, false},
		{billion + 1, billion + 8, 7, true},
		// A thousandth is the most that a bound permits: the part of e that counts is that of true time, not that of the clock.
		{1000, 1001, bound, true},
		{1000, 999, bound, true},
		{999, 1000, bound, false},
		{1001, 1000, bound, true},
		{1000, 1001, bound - 1, false},
		{most, most, 0, true},
		{most, most - 1, 0, false},
		{most, most - 1, 1, true},
		{most - 1, most, 1, true},
		{most, most - most/1000, bound, true},
		{most, most - most/1000 - 1, bound, false},
	} {
		checkFits(t, c.e, c.d, c.ppb, c.want)
	}
}

func TestFits(t *testing.T) {
	for _, ppb := range bounds() {
		for _, e := range durations(most) {
			for _, d := range shown(e, ppb) {
				checkFits(t, e, d, ppb, standardFits(e, d, ppb))
			}
		}
	}
}

// Every pair of small numbers is looked at, as a thousandth of them is rounded often.
func TestFitsSmall(t *testing.T) {
	for e := range 2100 {
		for d := max(0, e-4); d < e+5; d++ {
			for _, ppb := range []int{0, 476190, 476191, 500000, 999999, bound} {
				checkFits(t, e, d, ppb, standardFits(e, d, ppb))
			}
		}
	}
}

func TestFitsOutside(t *testing.T) {
	for _, n := range outside(most) {
		for _, ppb := range bounds() {
			checkFits(t, n, n, ppb, false)
			for _, d := range []int{0, 5, most} {
				checkFits(t, n, d, ppb, false)
				checkFits(t, d, n, ppb, false)
			}
		}
	}
	for _, ppb := range append(outside(bound), billion, -billion) {
		for _, d := range []int{0, 5, billion, most} {
			checkFits(t, d, d, ppb, false)
		}
	}
}

func checkRate(t *testing.T, e, d, want int, wanted api.Errno) {
	t.Helper()
	if got, errno := drift.Rate(e, d); got != want || errno != wanted {
		t.Fatalf("Rate of %d and %d is %d and %v, want %d and %v", e, d, got, errno, want, wanted)
	}
}

func TestKnownRates(t *testing.T) {
	for _, c := range []struct {
		e, d, want int
		errno      api.Errno
	}{
		{0, 0, 0, api.OK},
		{half, half, 0, api.OK},
		{billion, billion + 7, 7, api.OK},
		{billion, billion - 7, 7, api.OK},
		{billion - 1, billion, 2, api.OK},
		{billion + 1, billion, 1, api.OK},
		{3000, 3001, 333334, api.OK},
		{3000, 2999, 333334, api.OK},
		{1000, 1001, bound, api.OK},
		{1000, 999, bound, api.OK},
		{1001, 1000, 999001, api.OK},
		{999, 1000, 0, api.ErrNone},
		{999, 998, 0, api.ErrNone},
		{1000, 1002, 0, api.ErrNone},
		{0, 1, 0, api.ErrNone},
		{1, 0, 0, api.ErrNone},
		{0, half, 0, api.ErrNone},
		{half, 0, 0, api.ErrNone},
		{half, half - 1, 1, api.OK},
		{half, half - half/1000, bound, api.OK},
		{half, half - half/1000 - 1, 0, api.ErrNone},
		// A number that is not in its range is the first error, also beside one for which there is no rate.
		{half + 1, half + 1, 0, api.ErrRange},
		{half + 1, half, 0, api.ErrRange},
		{half, half + 1, 0, api.ErrRange},
		{0, half + 1, 0, api.ErrRange},
		{half + 1, 0, 0, api.ErrRange},
		{-1, 0, 0, api.ErrRange},
		{0, -1, 0, api.ErrRange},
		{-1, -1, 0, api.ErrRange},
		{math.MinInt, math.MaxInt, 0, api.ErrRange},
	} {
		checkRate(t, c.e, c.d, c.want, c.errno)
	}
}

func TestRates(t *testing.T) {
	for _, ppb := range bounds() {
		for _, e := range durations(half) {
			for _, d := range shown(e, ppb) {
				want, errno := standardRate(e, d)
				checkRate(t, e, d, want, errno)
			}
		}
	}
}

// Rate is the least bound with which Fits holds, and every greater one is as good.
func TestRateIsLeast(t *testing.T) {
	for _, e := range durations(half) {
		for _, d := range shown(e, 77) {
			least, errno := drift.Rate(e, d)
			switch errno {
			case api.OK:
				checkFits(t, e, d, least-1, false)
				checkFits(t, e, d, least, true)
				checkFits(t, e, d, (least+bound)/2, true)
				checkFits(t, e, d, bound, true)
			case api.ErrNone:
				checkFits(t, e, d, bound, false)
			}
		}
	}
}

func TestRatesOutside(t *testing.T) {
	for _, n := range outside(half) {
		checkRate(t, n, n, 0, api.ErrRange)
		for _, d := range []int{0, 5, half} {
			checkRate(t, n, d, 0, api.ErrRange)
			checkRate(t, d, n, 0, api.ErrRange)
		}
	}
}
