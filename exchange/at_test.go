package exchange_test

import (
	"testing"

	"sectime/api"
	"sectime/exchange"
)

func checkAt(t *testing.T, s api.Sample, ppb int, want api.Span, wanted api.Errno) {
	t.Helper()
	if got, e := exchange.At(s, ppb); got != want || e != wanted {
		t.Fatalf("At of %+v with %d is %v and %v, want %v and %v", s, ppb, got, e, want, wanted)
	}
}

func TestKnownInstants(t *testing.T) {
	for _, c := range []struct {
		s    api.Sample
		ppb  int
		want api.Span
		e    api.Errno
	}{
		{api.Sample{}, 0, span(0, 0), api.OK},
		{api.Sample{}, bound, span(0, 0), api.OK},
		{sample(100, 1150, 1160, 200, 7), 0, span(1153, 1257), api.OK},
		{sample(100, 1150, 1160, 200, 7), 1, span(1153, 1258), api.OK},
		{sample(-200, -60, -50, -100, 7), 0, span(-57, 47), api.OK},
		// A thousandth of drift makes 1000 ticks 1002 at most, and 999 ticks 1000.
		{sample(0, 0, 0, 1000, 0), bound, span(0, 1002), api.OK},
		{sample(0, 0, 0, 999, 0), bound, span(0, 1000), api.OK},
		{sample(0, 0, 0, 1<<40, 0), 1000, span(0, 1099512727289), api.OK},
		// The first end may be the second one, but not behind it; the error of the server makes room on both sides.
		{sample(0, 0, 100, 100, 0), 0, span(100, 100), api.OK},
		{sample(0, 0, 101, 100, 0), 0, api.Span{}, api.ErrSample},
		{sample(0, 0, 101, 100, 0), 1, span(101, 101), api.OK},
		{sample(0, 0, 101, 100, 1), 0, span(100, 101), api.OK},
		{sample(0, 0, 102, 100, 1), 0, span(101, 101), api.OK},
		{sample(0, 0, 103, 100, 1), 0, api.Span{}, api.ErrSample},
		// The longest time that Elapsed takes.
		{sample(0, 0, 0, half, 0), 0, span(0, half), api.OK},
		{sample(-half, 0, 0, 0, 0), 0, span(0, half), api.OK},
		{sample(0, 0, 0, half+1, 0), 0, api.Span{}, api.ErrRange},
		{sample(-most, 0, 0, most, 0), 0, api.Span{}, api.ErrRange},
		{api.Sample{}, -1, api.Span{}, api.ErrRange},
		{api.Sample{}, bound + 1, api.Span{}, api.ErrRange},
		// Each end at the bounds of an instant.
		{sample(0, most, most, 0, 0), 0, span(most, most), api.OK},
		{sample(0, most, most, 1, 0), 0, api.Span{}, api.ErrRange},
		{sample(0, most, most, 0, 1), 0, api.Span{}, api.ErrRange},
		{sample(0, most-1, most-1, 1, 0), 0, span(most-1, most), api.OK},
		{sample(0, most-1, most-1, 1, 0), 1, api.Span{}, api.ErrRange},
		{sample(0, -most, -most, 0, 0), 0, span(-most, -most), api.OK},
		{sample(0, -most, -most, 0, 1), 0, api.Span{}, api.ErrRange},
		{sample(0, 1-most, 1-most, 0, 1), 0, span(-most, 2-most), api.OK},
		{sample(0, 0, 0, 0, most), 0, span(-most, most), api.OK},
		{sample(0, 0, 0, 1, most), 0, api.Span{}, api.ErrRange},
		{sample(0, -1, 0, 1, most), 0, span(-most, most), api.OK},
		{sample(0, -1, -1, 0, most), 0, api.Span{}, api.ErrRange},
		{sample(0, most, most, half, most), bound, api.Span{}, api.ErrRange},
		// Errors of Elapsed come before that of the ends' order; ends in a wrong order are always valid.
		{sample(0, 0, 9, 0, 0), -1, api.Span{}, api.ErrRange},
		{sample(0, 0, most, half+1, 0), 0, api.Span{}, api.ErrRange},
		{sample(0, -most, most, 1, 0), 0, api.Span{}, api.ErrSample},
		{sample(0, -most, most, half, 0), 0, api.Span{}, api.ErrSample},
		// The first of all is that of Check.
		{sample(1, 0, 0, 0, 0), -1, api.Span{}, api.ErrOrder},
		{sample(0, 1, 0, 0, 1), bound + 1, api.Span{}, api.ErrOrder},
		{sample(0, 0, 0, 0, -1), 0, api.Span{}, api.ErrRange},
	} {
		checkAt(t, c.s, c.ppb, c.want, c.e)
	}
}

func TestInstants(t *testing.T) {
	for _, ppb := range bounds() {
		for _, s := range append(small(), random(7, 5000)...) {
			want, e := standardAt(s, ppb)
			checkAt(t, s, ppb, want, e)
		}
	}
	for _, err := range []int{0, 1, half, most} {
		for _, s := range edges(err) {
			want, e := standardAt(s, 1000)
			checkAt(t, s, 1000, want, e)
		}
	}
}

// Samples with which an end is at a bound of an instant, or a tick beside it.
func TestInstantsAtBounds(t *testing.T) {
	for _, ppb := range bounds() {
		for _, d := range []int{0, 1, 999, 1000, 1001, billion, 1 << 40, half - 1, half} {
			for _, err := range []int{0, 1, 1000, half / 2} {
				longest, _ := standardAt(sample(0, 0, 0, d, 0), ppb)
				for off := -2; off <= 2; off++ {
					hi, lo := min(most, most-err-longest.Hi+off), max(-most, -most+err+off)
					for _, s := range []api.Sample{sample(0, hi, hi, d, err), sample(9, hi, min(hi+d, most), 9+d, err), sample(-d, lo, lo, 0, err)} {
						want, e := standardAt(s, ppb)
						checkAt(t, s, ppb, want, e)
					}
				}
			}
		}
	}
}

func TestWrongDriftBounds(t *testing.T) {
	for _, ppb := range append(far(), -1, -1000, bound+1, bound+2, billion, billion+1, -billion) {
		for _, s := range []api.Sample{{}, sample(100, 1150, 1160, 200, 7), sample(0, 0, 9, 0, 0), sample(0, 0, 0, half, 0)} {
			checkAt(t, s, ppb, api.Span{}, api.ErrRange)
		}
	}
}
