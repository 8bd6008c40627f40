package interval_test

import (
	"math/big"
	"testing"

	"sectime/api"
	"sectime/interval"
)

func TestKnownValid(t *testing.T) {
	for _, s := range []api.Span{span(0, 0), span(-1, -1), span(1, 5), span(-5, 3), span(-most, -most), span(most, most), span(-most, most), span(-most, 0), span(0, most)} {
		if !interval.Valid(s) {
			t.Errorf("%v is not valid", s)
		}
	}
	for _, s := range []api.Span{span(1, 0), span(0, -1), span(5, -5), span(most, -most), span(-most-1, 0), span(-most-1, -most-1), span(0, most+1), span(most+1, most+1), span(-most-1, most+1), span(-1<<63, 1<<63-1), span(1<<63-1, -1<<63)} {
		if interval.Valid(s) {
			t.Errorf("%v is valid", s)
		}
	}
}

func TestValid(t *testing.T) {
	for _, s := range append(wides(), smalls(5)...) {
		if got, want := interval.Valid(s), standardValid(s); got != want {
			t.Errorf("Valid of %v is %v, want %v", s, got, want)
		}
	}
}

func TestKnownHolds(t *testing.T) {
	for _, c := range []struct {
		s    api.Span
		t    int
		want bool
	}{
		{span(2, 5), 1, false}, {span(2, 5), 2, true}, {span(2, 5), 3, true}, {span(2, 5), 5, true}, {span(2, 5), 6, false},
		{span(3, 3), 2, false}, {span(3, 3), 3, true}, {span(3, 3), 4, false},
		{span(-5, -2), -5, true}, {span(-5, -2), -2, true}, {span(-5, -2), -1, false}, {span(-5, -2), -6, false}, {span(-5, -2), 3, false},
		{span(5, 2), 2, false}, {span(5, 2), 3, false}, {span(5, 2), 5, false},
		{span(-most, most), -most, true}, {span(-most, most), most, true}, {span(-most, most), -most - 1, false}, {span(-most, most), most + 1, false},
		{span(0, most+1), 1, false}, {span(-most-1, 0), 0, false}, {span(-1<<63, 1<<63-1), 0, false},
		{span(-most, most), -1 << 63, false}, {span(-most, most), 1<<63 - 1, false},
	} {
		if got := interval.Holds(c.s, c.t); got != c.want {
			t.Errorf("Holds of %v and %d is %v", c.s, c.t, got)
		}
	}
}

func TestHolds(t *testing.T) {
	for _, s := range append(wides(), smalls(3)...) {
		for _, n := range append(ends(), s.Lo-1, s.Lo, s.Lo+1, s.Hi-1, s.Hi, s.Hi+1) {
			if got, want := interval.Holds(s, n), standardValid(s) && within(s, n); got != want {
				t.Errorf("Holds of %v and %d is %v, want %v", s, n, got, want)
			}
		}
	}
}

func TestKnownInside(t *testing.T) {
	for _, c := range []struct {
		a, b api.Span
		want bool
	}{
		{span(2, 5), span(2, 5), true}, {span(3, 4), span(2, 5), true}, {span(2, 4), span(2, 5), true}, {span(3, 5), span(2, 5), true},
		{span(1, 4), span(2, 5), false}, {span(3, 6), span(2, 5), false}, {span(1, 6), span(2, 5), false}, {span(7, 8), span(2, 5), false}, {span(0, 1), span(2, 5), false},
		{span(-most, most), span(-most, most), true}, {span(most, most), span(-most, most), true},
		{span(4, 3), span(2, 5), false}, {span(3, 4), span(5, 2), false}, {span(4, 3), span(4, 3), false},
		{span(3, 4), span(0, most+1), false}, {span(3, 4), span(-most-1, 5), false}, {span(-most-1, most+1), span(-most-1, most+1), false},
	} {
		if got := interval.Inside(c.a, c.b); got != c.want {
			t.Errorf("Inside of %v and %v is %v", c.a, c.b, got)
		}
	}
}

func TestInside(t *testing.T) {
	l := smalls(3)
	for _, a := range l {
		for _, b := range l {
			want := standardValid(a) && standardValid(b)
			for n := -3; n <= 3; n++ {
				want = want && (!within(a, n) || within(b, n))
			}
			if got := interval.Inside(a, b); got != want {
				t.Errorf("Inside of %v and %v is %v, want %v", a, b, got, want)
			}
		}
	}
}

func TestInsideOfInvalidSpans(t *testing.T) {
	all := span(-most, most)
	for _, s := range invalids() {
		if interval.Inside(s, all) || interval.Inside(all, s) || interval.Inside(span(0, 0), s) || interval.Inside(s, s) {
			t.Errorf("Inside of %v is true", s)
		}
	}
}

func TestKnownNumbers(t *testing.T) {
	for _, c := range []struct {
		s             api.Span
		width, middle int
	}{
		{span(0, 0), 0, 0}, {span(7, 7), 0, 7}, {span(-7, -7), 0, -7},
		{span(2, 5), 3, 3}, {span(2, 6), 4, 4}, {span(-5, -2), 3, -4}, {span(-6, -2), 4, -4}, {span(-1, 0), 1, -1}, {span(0, 1), 1, 0}, {span(-2, 1), 3, -1}, {span(-1, 2), 3, 0},
		{span(-most, most), 2 * most, 0}, {span(-most, most-1), 2*most - 1, -1}, {span(-most+1, most), 2*most - 1, 0},
		{span(most, most), 0, most}, {span(-most, -most), 0, -most}, {span(most-1, most), 1, most - 1}, {span(-most, -most+1), 1, -most},
		{span(5, 2), 0, 0}, {span(0, most+1), 0, 0}, {span(-most-1, 0), 0, 0}, {span(most+2, most+4), 0, 0},
	} {
		if w, m := interval.Width(c.s), interval.Middle(c.s); w != c.width || m != c.middle {
			t.Errorf("Width and Middle of %v are %d and %d, want %d and %d", c.s, w, m, c.width, c.middle)
		}
	}
}

func TestNumbers(t *testing.T) {
	for _, s := range append(wides(), smalls(5)...) {
		width, middle := new(big.Int), new(big.Int)
		if standardValid(s) {
			width = minus(s.Hi, s.Lo)
			// Div rounds down for a divisor above 0.
			middle.Div(plus(s.Lo, s.Hi), number(2))
		}
		if got := interval.Width(s); number(got).Cmp(width) != 0 {
			t.Errorf("Width of %v is %d, want %v", s, got, width)
		}
		if got := interval.Middle(s); number(got).Cmp(middle) != 0 {
			t.Errorf("Middle of %v is %d, want %v", s, got, middle)
		}
	}
}
