package exchange_test

import (
	"testing"

	"sectime/api"
	"sectime/exchange"
)

func checkCheck(t *testing.T, s api.Sample, want api.Errno) {
	t.Helper()
	if got := exchange.Check(s); got != want {
		t.Fatalf("Check of %+v is %v, want %v", s, got, want)
	}
}

func TestKnownChecks(t *testing.T) {
	for _, c := range []struct {
		s    api.Sample
		want api.Errno
	}{
		{api.Sample{}, api.OK},
		{sample(100, 1150, 1160, 200, 7), api.OK},
		{sample(-200, 5, 5, -200, 0), api.OK},
		{sample(-most, -most, most, most, most), api.OK},
		{sample(most, most, most, most, 0), api.OK},
		{sample(-most, -most, -most, -most, 0), api.OK},
		// A delay below 0 is no error of Check.
		{sample(0, 0, 100, 0, 0), api.OK},
		// Each number has its range.
		{sample(most+1, 0, 0, most, 0), api.ErrRange},
		{sample(-most-1, 0, 0, 0, 0), api.ErrRange},
		{sample(0, most+1, most, 0, 0), api.ErrRange},
		{sample(0, -most-1, 0, 0, 0), api.ErrRange},
		{sample(0, 0, most+1, 0, 0), api.ErrRange},
		{sample(0, -most, -most-1, 0, 0), api.ErrRange},
		{sample(0, 0, 0, most+1, 0), api.ErrRange},
		{sample(-most, 0, 0, -most-1, 0), api.ErrRange},
		{sample(0, 0, 0, 0, -1), api.ErrRange},
		{sample(0, 0, 0, 0, -most), api.ErrRange},
		{sample(0, 0, 0, 0, most+1), api.ErrRange},
		{sample(5, 0, 0, 4, 0), api.ErrOrder},
		{sample(0, 5, 4, 0, 0), api.ErrOrder},
		{sample(most, 0, 0, -most, 0), api.ErrOrder},
		{sample(0, most, -most, 0, 0), api.ErrOrder},
		{sample(5, 5, 4, 4, 0), api.ErrOrder},
		// The client's readings and the server's are of different clocks and have no order.
		{sample(0, -9, -9, 0, 0), api.OK},
		{sample(0, 9, 9, 0, 0), api.OK},
		// A range is looked at before every order.
		{sample(5, 0, 0, 4, -1), api.ErrRange},
		{sample(5, 0, most+1, 4, 0), api.ErrRange},
		{sample(0, 5, 4, most+1, 0), api.ErrRange},
		{sample(0, 5, 4, 0, most+1), api.ErrRange},
	} {
		checkCheck(t, c.s, c.want)
	}
}

func TestChecks(t *testing.T) {
	for _, err := range []int{-1, 0, most, most + 1} {
		for _, s := range edges(err) {
			checkCheck(t, s, standardCheck(s))
		}
	}
	for _, s := range append(small(), random(1, 10000)...) {
		checkCheck(t, s, standardCheck(s))
	}
}

// spoilt are samples of which a single number is far outside of its range.
func spoilt() []api.Sample {
	l := []api.Sample{}
	for _, s := range []api.Sample{{}, sample(100, 1150, 1160, 200, 7), sample(5, 0, 0, 4, 0), sample(0, 0, 9, 0, 0)} {
		for _, n := range far() {
			l = append(l, sample(n, s.T2, s.T3, s.T4, s.Err), sample(s.T1, n, s.T3, s.T4, s.Err), sample(s.T1, s.T2, n, s.T4, s.Err), sample(s.T1, s.T2, s.T3, n, s.Err), sample(s.T1, s.T2, s.T3, s.T4, n), sample(n, n, n, n, n))
		}
	}
	return l
}

// A sample that Check refuses is refused by all functions with the same error, whatever else they are given.
func TestErrorsOfCheckComeFirst(t *testing.T) {
	for _, s := range append(spoilt(), sample(5, 0, 0, 4, 0), sample(0, 5, 4, 0, 0), sample(0, 0, 0, 0, -1), sample(0, 5, 4, 200, 0), sample(most, 5, 100, -most, most)) {
		want := standardCheck(s)
		if want == api.OK {
			t.Fatalf("%+v has no error", s)
		}
		checkCheck(t, s, want)
		checkDelay(t, s, 0, want)
		checkOffset(t, s, api.Span{}, want)
		for _, n := range append(far(), -1, 0, 1, 499, 500, 750, 1000, 1001, bound, bound+1) {
			checkBound(t, s, n, api.Span{}, want)
			checkAt(t, s, n, api.Span{}, want)
		}
	}
}
