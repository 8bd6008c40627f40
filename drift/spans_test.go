package drift_test

import (
	"math"
	"math/rand"
	"testing"

	"sectime/api"
	"sectime/drift"
	"sectime/interval"
)

func checkElapsed(t *testing.T, d, ppb int, want api.Span, wanted api.Errno) {
	t.Helper()
	if got, e := drift.Elapsed(d, ppb); got != want || e != wanted {
		t.Fatalf("Elapsed of %d with %d is %v and %v, want %v and %v", d, ppb, got, e, want, wanted)
	}
}

func checkAdvance(t *testing.T, e, ppb int, want api.Span, wanted api.Errno) {
	t.Helper()
	if got, errno := drift.Advance(e, ppb); got != want || errno != wanted {
		t.Fatalf("Advance of %d with %d is %v and %v, want %v and %v", e, ppb, got, errno, want, wanted)
	}
}

func TestKnownSpans(t *testing.T) {
	for _, c := range []struct {
		n, ppb           int
		elapsed, advance api.Span
	}{
		{0, 0, span(0, 0), span(0, 0)},
		{0, bound, span(0, 0), span(0, 0)},
		{1, 0, span(1, 1), span(1, 1)},
		{1, 1, span(0, 2), span(0, 2)},
		{half, 0, span(half, half), span(half, half)},
		{1 << 40, 1000, span(1099510528265, 1099512727289), span(1099510528264, 1099512727288)},
		{billion, 100, span(billion-100, billion+101), span(billion-100, billion+100)},
		// Of quotients without rest neither end is moved.
		{billion + bound, bound, span(billion, 1002002003), span(999999000, 1002001000)},
		{billion - bound, bound, span(998001998, billion), span(998001000, 999999000)},
		{billion, bound, span(999000999, 1001001002), span(999000000, 1001000000)},
		{1000, bound, span(999, 1002), span(999, 1001)},
		{999, bound, span(998, 1000), span(998, 1000)},
		{1001, bound, span(1000, 1003), span(999, 1003)},
	} {
		checkElapsed(t, c.n, c.ppb, c.elapsed, api.OK)
		checkAdvance(t, c.n, c.ppb, c.advance, api.OK)
	}
}

func TestSpans(t *testing.T) {
	for _, ppb := range bounds() {
		for _, n := range durations(half) {
			want, e := standardElapsed(n, ppb)
			checkElapsed(t, n, ppb, want, e)
			want, e = standardAdvance(n, ppb)
			checkAdvance(t, n, ppb, want, e)
		}
	}
}

// Near the multiples of what Elapsed divides by, up to the greatest one, the quotients have no rest, or the least or greatest one.
func TestSpansAtMultiples(t *testing.T) {
	r := rand.New(rand.NewSource(17))
	for _, ppb := range append(bounds(), r.Intn(bound), r.Intn(bound), r.Intn(bound)) {
		for _, rate := range []int{billion - ppb, billion, billion + ppb} {
			for _, k := range []int{1, 2, 999, r.Intn(half / rate), half/rate - 1, half / rate} {
				for d := -2; d <= 2; d++ {
					if n := k*rate + d; n <= half {
						want, e := standardElapsed(n, ppb)
						checkElapsed(t, n, ppb, want, e)
						want, e = standardAdvance(n, ppb)
						checkAdvance(t, n, ppb, want, e)
					}
				}
			}
		}
	}
}

func TestSpansOutside(t *testing.T) {
	check := func(n, ppb int) {
		t.Helper()
		checkElapsed(t, n, ppb, api.Span{}, api.ErrRange)
		checkAdvance(t, n, ppb, api.Span{}, api.ErrRange)
	}
	for _, n := range outside(half) {
		for _, ppb := range append(bounds(), outside(bound)...) {
			check(n, ppb)
		}
	}
	for _, ppb := range append(outside(bound), billion, -billion, billion+1) {
		for _, n := range []int{0, 1, billion, half} {
			check(n, ppb)
		}
	}
}

// Elapsed contains what true time advanced by, Advance what the clock did.
func TestContainment(t *testing.T) {
	for _, ppb := range bounds() {
		for _, e := range durations(half) {
			for _, d := range shown(e, ppb) {
				if d > half || !drift.Fits(e, d, ppb) {
					continue
				}
				if s, errno := drift.Elapsed(d, ppb); errno != api.OK || !interval.Holds(s, e) {
					t.Fatal(e, d, ppb, s, errno)
				}
				if s, errno := drift.Advance(e, ppb); errno != api.OK || !interval.Holds(s, d) {
					t.Fatal(e, d, ppb, s, errno)
				}
			}
		}
	}
}

// Time that elapsed in two parts is contained in the sum of their spans, and so is what is reckoned at once.
func TestParts(t *testing.T) {
	r := rand.New(rand.NewSource(18))
	for _, ppb := range bounds() {
		for range 500 {
			d := r.Intn(half+1) >> r.Intn(58)
			first := r.Intn(d + 1)
			a, e := drift.Elapsed(first, ppb)
			b, f := drift.Elapsed(d-first, ppb)
			both, g := drift.Elapsed(d, ppb)
			sum, h := interval.Add(a, b)
			if e != api.OK || f != api.OK || g != api.OK || h != api.OK || !interval.Inside(both, sum) {
				t.Fatal(d, first, ppb, a, b, both, sum)
			}
		}
	}
}

func checkCarried(t *testing.T, s api.Span, d, ppb int) {
	t.Helper()
	want, wanted := standardCarried(s, d, ppb, 1)
	if got, e := drift.Project(s, d, ppb); got != want || e != wanted {
		t.Fatalf("Project of %v by %d with %d is %v and %v, want %v and %v", s, d, ppb, got, e, want, wanted)
	}
	want, wanted = standardCarried(s, d, ppb, -1)
	if got, e := drift.Back(s, d, ppb); got != want || e != wanted {
		t.Fatalf("Back of %v by %d with %d is %v and %v, want %v and %v", s, d, ppb, got, e, want, wanted)
	}
}

func TestKnownCarried(t *testing.T) {
	for _, c := range []struct {
		s             api.Span
		d, ppb        int
		project, back api.Span
		e, f          api.Errno
	}{
		{span(10, 20), 0, bound, span(10, 20), span(10, 20), api.OK, api.OK},
		{span(10, 20), 5, 0, span(15, 25), span(5, 15), api.OK, api.OK},
		{span(10, 20), 1000, bound, span(1009, 1022), span(-992, -979), api.OK, api.OK},
		{span(-20, -10), 1000, bound, span(979, 992), span(-1022, -1009), api.OK, api.OK},
		// The wider end decides whether a result is valid.
		{span(most-1002, most-1002), 1000, bound, span(most-3, most), span(most-2004, most-2001), api.OK, api.OK},
		{span(most-1001, most-1001), 1000, bound, api.Span{}, span(most-2003, most-2000), api.ErrRange, api.OK},
		{span(1002-most, 1002-most), 1000, bound, span(2001-most, 2004-most), span(-most, 3-most), api.OK, api.OK},
		{span(1001-most, 1001-most), 1000, bound, span(2000-most, 2003-most), api.Span{}, api.OK, api.ErrRange},
		{span(-most, most), 0, 0, span(-most, most), span(-most, most), api.OK, api.OK},
		{span(-most, most), 1, 0, api.Span{}, api.Span{}, api.ErrRange, api.ErrRange},
		{span(half, half), half, 0, span(most, most), span(0, 0), api.OK, api.OK},
		{span(half, half), half, 1, api.Span{}, span(-576460753, 576460752), api.ErrRange, api.OK},
		// A span that is not valid is the first error, whatever else there is.
		{span(20, 10), 5, 0, api.Span{}, api.Span{}, api.ErrForm, api.ErrForm},
		{span(20, 10), -1, 0, api.Span{}, api.Span{}, api.ErrForm, api.ErrForm},
		{span(20, 10), 5, bound + 1, api.Span{}, api.Span{}, api.ErrForm, api.ErrForm},
		{span(10, 20), -1, 0, api.Span{}, api.Span{}, api.ErrRange, api.ErrRange},
		{span(10, 20), 5, -1, api.Span{}, api.Span{}, api.ErrRange, api.ErrRange},
		{span(10, 20), half + 1, 0, api.Span{}, api.Span{}, api.ErrRange, api.ErrRange},
		{span(10, 20), math.MinInt, math.MinInt, api.Span{}, api.Span{}, api.ErrRange, api.ErrRange},
	} {
		if got, e := drift.Project(c.s, c.d, c.ppb); got != c.project || e != c.e {
			t.Fatalf("Project of %v by %d with %d is %v and %v, want %v and %v", c.s, c.d, c.ppb, got, e, c.project, c.e)
		}
		if got, e := drift.Back(c.s, c.d, c.ppb); got != c.back || e != c.f {
			t.Fatalf("Back of %v by %d with %d is %v and %v, want %v and %v", c.s, c.d, c.ppb, got, e, c.back, c.f)
		}
	}
}

func TestCarried(t *testing.T) {
	for _, s := range spans() {
		for _, ppb := range []int{0, 1, 1000, bound} {
			for _, d := range durations(half) {
				checkCarried(t, s, d, ppb)
			}
		}
	}
}

// Spans with which the result ends at a bound of an instant, or a tick beside it.
func TestCarriedToBounds(t *testing.T) {
	for _, ppb := range bounds() {
		for _, d := range durations(half) {
			elapsed, _ := standardElapsed(d, ppb)
			for off := -2; off <= 2; off++ {
				for _, wide := range []int{0, 9} {
					hi, lo := most-elapsed.Hi+off, -most+elapsed.Hi+off
					if hi <= most {
						checkCarried(t, span(hi-wide, hi), d, ppb)
					}
					if lo >= -most {
						checkCarried(t, span(lo, lo+wide), d, ppb)
					}
				}
			}
		}
	}
}

func TestErrorsOfCarried(t *testing.T) {
	for _, s := range append(invalid(), spans()...) {
		for _, d := range append(outside(half), 0, 5, half) {
			for _, ppb := range append(outside(bound), 0, 5, bound) {
				checkCarried(t, s, d, ppb)
			}
		}
	}
}

// A span that contains true time still contains it when it was carried on, or back to where it came from.
func TestCarriedContainment(t *testing.T) {
	r := rand.New(rand.NewSource(19))
	for _, ppb := range bounds() {
		for range 500 {
			now, e := (2*r.Intn(2)-1)*r.Intn(half), r.Intn(half/2)>>r.Intn(57)
			advance, _ := standardAdvance(e, ppb)
			s := span(now-r.Intn(9), now+r.Intn(9))
			for _, d := range []int{advance.Lo, advance.Hi, e, advance.Lo + r.Intn(advance.Hi-advance.Lo+1)} {
				if !standardFits(e, d, ppb) {
					continue
				}
				if later, errno := drift.Project(s, d, ppb); errno != api.OK || !interval.Holds(later, now+e) {
					t.Fatal(s, e, d, ppb, later, errno)
				}
				if earlier, errno := drift.Back(s, d, ppb); errno != api.OK || !interval.Holds(earlier, now-e) {
					t.Fatal(s, e, d, ppb, earlier, errno)
				}
			}
		}
	}
}
