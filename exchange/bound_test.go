package exchange_test

import (
	"testing"

	"sectime/api"
	"sectime/exchange"
	"sectime/interval"
)

func checkBound(t *testing.T, s api.Sample, share int, want api.Span, wanted api.Errno) {
	t.Helper()
	if got, e := exchange.Bound(s, share); got != want || e != wanted {
		t.Fatalf("Bound of %+v with %d is %v and %v, want %v and %v", s, share, got, e, want, wanted)
	}
}

func TestKnownBounds(t *testing.T) {
	for _, c := range []struct {
		s     api.Sample
		share int
		want  api.Span
		e     api.Errno
	}{
		{api.Sample{}, 500, span(0, 0), api.OK},
		{api.Sample{}, 1000, span(0, 0), api.OK},
		// The delay is 90, and T2 - T1 is 1050.
		{sample(100, 1150, 1160, 200, 7), 1000, span(960, 1050), api.OK},
		{sample(100, 1150, 1160, 200, 7), 500, span(1005, 1005), api.OK},
		{sample(100, 1150, 1160, 200, 7), 600, span(996, 1014), api.OK},
		// Parts with a rest make the span wider at both ends: 54.09 and 35.91.
		{sample(100, 1150, 1160, 200, 7), 601, span(995, 1015), api.OK},
		// The delay is 1, and the offset on either side of 0.
		{sample(0, 0, 0, 1, 0), 500, span(-1, 0), api.OK},
		{sample(0, 0, 0, 1, 0), 1000, span(-1, 0), api.OK},
		{sample(0, 1, 1, 1, 0), 500, span(0, 1), api.OK},
		{sample(5, 0, 0, 6, 0), 750, span(-6, -5), api.OK},
		// The delay is 1000.
		{sample(0, 1000, 1000, 1000, 0), 501, span(499, 501), api.OK},
		{sample(0, 1000, 1000, 1000, 0), 999, span(1, 999), api.OK},
		// The longest delay.
		{sample(0, 0, 0, most, 0), 1000, span(-most, 0), api.OK},
		{sample(-most, 0, 0, 0, 0), 1000, span(0, most), api.OK},
		{sample(0, 0, 0, most, 0), 500, span(-half, -half), api.OK},
		{sample(0, 0, 0, most, 0), 600, span(-691752902764108186, -461168601842738790), api.OK},
		{sample(0, 0, 0, most, 0), 999, span(-1151768583102240130, -1152921504606846), api.OK},
		{sample(0, 0, 0, most, 0), 499, api.Span{}, api.ErrRange},
		{sample(0, 0, 0, 9, 0), 499, api.Span{}, api.ErrRange},
		{sample(0, 0, 0, 9, 0), 1001, api.Span{}, api.ErrRange},
		{sample(0, 0, 0, 9, 0), -500, api.Span{}, api.ErrRange},
		// An error of the sample comes before that of the share.
		{sample(9, 0, 0, 0, 0), 0, api.Span{}, api.ErrOrder},
		{sample(0, 0, 9, 0, 0), 0, api.Span{}, api.ErrSample},
		{sample(0, 0, 9, 0, 0), 1000, api.Span{}, api.ErrSample},
		// The offset has no error here, but the delay has.
		{sample(-most, 0, 0, most, 0), 500, api.Span{}, api.ErrRange},
		{sample(-half, 0, 0, half+1, 0), 1000, api.Span{}, api.ErrRange},
		// The delay has no error here, but the offset has, although the span of a smaller share would be valid.
		{sample(-most, 1, 1, 0, 0), 500, api.Span{}, api.ErrRange},
		{sample(0, -1, -1, most, 0), 500, api.Span{}, api.ErrRange},
	} {
		checkBound(t, c.s, c.share, c.want, c.e)
	}
}

func TestBounds(t *testing.T) {
	for _, share := range shares() {
		for _, s := range append(small(), random(4, 5000)...) {
			want, e := standardBound(s, share)
			checkBound(t, s, share, want, e)
		}
	}
	for _, share := range []int{499, 500, 777, 1000, 1001} {
		for _, s := range edges(0) {
			want, e := standardBound(s, share)
			checkBound(t, s, share, want, e)
		}
	}
}

// Each share, with delays around the multiples of a thousand, where parts have no rest, the least and the greatest one.
func TestRests(t *testing.T) {
	for share := 500; share <= 1000; share++ {
		for _, near := range []int{0, 500, 1000, 123000, 1 << 50, most - most%1000, most} {
			for delay := max(0, near-3); delay <= min(near+3, most); delay++ {
				for _, s := range []api.Sample{sample(0, 0, 0, delay, 0), sample(-delay, 0, 0, 0, 0), sample(-delay/2, 5, 9, delay-delay/2+4, 3)} {
					want, e := standardBound(s, share)
					checkBound(t, s, share, want, e)
				}
			}
		}
	}
}

func TestWrongShares(t *testing.T) {
	for _, share := range wrong() {
		for _, s := range []api.Sample{{}, sample(100, 1150, 1160, 200, 7), sample(0, 0, 0, most, 0), sample(-most, 0, 0, 0, most)} {
			checkBound(t, s, share, api.Span{}, api.ErrRange)
		}
		for _, s := range append(small(), random(5, 300)...) {
			want, e := standardBound(s, share)
			checkBound(t, s, share, want, e)
		}
	}
}

// With a share of 1000 a bound is the offset, and with a smaller one it lies in that of a greater one.
func TestGrowingShares(t *testing.T) {
	for _, s := range append(small(), random(6, 2000)...) {
		if _, e := exchange.Delay(s); e != api.OK {
			continue
		}
		before, e := exchange.Offset(s)
		checkBound(t, s, 1000, before, e)
		for share := 999; share >= 500 && e == api.OK; share -= 7 {
			bound, e := exchange.Bound(s, share)
			if e != api.OK || !interval.Inside(bound, before) {
				t.Fatal(s, share, bound, before, e)
			}
			before = bound
		}
	}
}
