package interval_test

import (
	"testing"

	"sectime/api"
	"sectime/interval"
)

// check checks a span and the error that came with it.
func check(t *testing.T, name string, of []any, got api.Span, e api.Errno, want api.Span, wanted api.Errno) {
	t.Helper()
	if got != want || e != wanted {
		t.Errorf("%s of %v is %v and %v, want %v and %v", name, of, got, e, want, wanted)
	}
}

// checkMeet checks Meet, which has no error.
func checkMeet(t *testing.T, a, b, want api.Span, wanted bool) {
	t.Helper()
	if got, ok := interval.Meet(a, b); got != want || ok != wanted {
		t.Errorf("Meet of %v and %v is %v and %v, want %v and %v", a, b, got, ok, want, wanted)
	}
}

func TestKnownMeet(t *testing.T) {
	for _, c := range []struct {
		a, b, want api.Span
		ok         bool
	}{
		{span(1, 5), span(4, 9), span(4, 5), true},
		{span(1, 3), span(4, 9), span(0, 0), false},
		{span(1, 4), span(4, 9), span(4, 4), true},
		{span(1, 9), span(3, 4), span(3, 4), true},
		{span(2, 2), span(2, 2), span(2, 2), true},
		{span(-5, 0), span(0, 5), span(0, 0), true},
		{span(-most, most), span(-7, 5), span(-7, 5), true},
		{span(-most, -most), span(most, most), span(0, 0), false},
		{span(5, 1), span(0, 9), span(0, 0), false},
		{span(5, 1), span(5, 1), span(0, 0), false},
		{span(1, 9), span(0, most+1), span(0, 0), false},
		{span(1, 9), span(-most-1, 5), span(0, 0), false},
	} {
		checkMeet(t, c.a, c.b, c.want, c.ok)
		checkMeet(t, c.b, c.a, c.want, c.ok)
	}
}

func TestMeet(t *testing.T) {
	l := smalls(3)
	for _, a := range l {
		for _, b := range l {
			want, ok := standardCommon([]api.Span{a, b}, 3)
			checkMeet(t, a, b, want, ok)
		}
	}
}

func TestMeetOfInvalidSpans(t *testing.T) {
	for _, s := range invalids() {
		for _, other := range []api.Span{span(-most, most), span(0, 0), span(0, 2), span(-most, -most), span(most, most), s} {
			checkMeet(t, s, other, api.Span{}, false)
			checkMeet(t, other, s, api.Span{}, false)
		}
	}
}

func TestKnownResults(t *testing.T) {
	for _, c := range []struct{ a, b, hull, sum, difference api.Span }{
		{span(1, 2), span(7, 9), span(1, 9), span(8, 11), span(-8, -5)},
		{span(7, 9), span(1, 8), span(1, 9), span(8, 17), span(-1, 8)},
		{span(1, 9), span(3, 4), span(1, 9), span(4, 13), span(-3, 6)},
		{span(3, 3), span(5, 5), span(3, 5), span(8, 8), span(-2, -2)},
		{span(-4, -1), span(2, 3), span(-4, 3), span(-2, 2), span(-7, -3)},
		{span(0, 0), span(0, 0), span(0, 0), span(0, 0), span(0, 0)},
		{span(-most/2, most/2), span(-most/2, most/2), span(-most/2, most/2), span(-most, most), span(-most, most)},
	} {
		of := []any{c.a, c.b}
		hull, e := interval.Hull(c.a, c.b)
		check(t, "Hull", of, hull, e, c.hull, api.OK)
		sum, e := interval.Add(c.a, c.b)
		check(t, "Add", of, sum, e, c.sum, api.OK)
		difference, e := interval.Sub(c.a, c.b)
		check(t, "Sub", of, difference, e, c.difference, api.OK)
	}
}

// least returns the span from the least to the greatest of some numbers, of which it checks that none between is missing.
func least(t *testing.T, l map[int]bool) api.Span {
	t.Helper()
	var s api.Span
	first := true
	for n := range l {
		if first {
			s, first = span(n, n), false
		}
		s = span(min(s.Lo, n), max(s.Hi, n))
	}
	if len(l) != s.Hi-s.Lo+1 {
		t.Fatalf("%v are not all numbers of a span", l)
	}
	return s
}

// Hull, Add and Sub of small spans are held against their elements, one by one.
func TestResultsByElements(t *testing.T) {
	l := smalls(3)
	for _, a := range l {
		for _, b := range l {
			if !standardValid(a) || !standardValid(b) {
				continue
			}
			sums, differences := map[int]bool{}, map[int]bool{}
			for x := a.Lo; x <= a.Hi; x++ {
				for y := b.Lo; y <= b.Hi; y++ {
					sums[x+y], differences[x-y] = true, true
				}
			}
			of := []any{a, b}
			sum, e := interval.Add(a, b)
			check(t, "Add", of, sum, e, least(t, sums), api.OK)
			difference, e := interval.Sub(a, b)
			check(t, "Sub", of, difference, e, least(t, differences), api.OK)
			hull, e := interval.Hull(a, b)
			check(t, "Hull", of, hull, e, span(min(a.Lo, b.Lo), max(a.Hi, b.Hi)), api.OK)
			if !interval.Inside(a, hull) || !interval.Inside(b, hull) {
				t.Errorf("the hull of %v and %v does not contain both", a, b)
			}
		}
	}
}

// Spans at the bounds, valid or not, are held against integers of any length.
func TestResultsAtTheBounds(t *testing.T) {
	l := wides()
	for _, a := range l {
		for _, b := range l {
			of, both := []any{a, b}, []api.Span{a, b}
			want, wanted := standardSpan(both, true, number(min(a.Lo, b.Lo)), number(max(a.Hi, b.Hi)))
			got, e := interval.Hull(a, b)
			check(t, "Hull", of, got, e, want, wanted)
			want, wanted = standardSpan(both, true, plus(a.Lo, b.Lo), plus(a.Hi, b.Hi))
			got, e = interval.Add(a, b)
			check(t, "Add", of, got, e, want, wanted)
			want, wanted = standardSpan(both, true, minus(a.Lo, b.Hi), minus(a.Hi, b.Lo))
			got, e = interval.Sub(a, b)
			check(t, "Sub", of, got, e, want, wanted)
		}
	}
}

func TestKnownShift(t *testing.T) {
	for _, c := range []struct {
		a    api.Span
		d    int
		want api.Span
		e    api.Errno
	}{
		{span(1, 2), 5, span(6, 7), api.OK}, {span(1, 2), -5, span(-4, -3), api.OK}, {span(1, 2), 0, span(1, 2), api.OK},
		{span(0, 0), most, span(most, most), api.OK}, {span(0, 0), -most, span(-most, -most), api.OK},
		{span(-most, 0), most, span(0, most), api.OK}, {span(0, most), -most, span(-most, 0), api.OK}, {span(-most, most), 0, span(-most, most), api.OK},
		{span(0, 1), most, span(0, 0), api.ErrRange}, {span(-1, 0), -most, span(0, 0), api.ErrRange}, {span(-most, most), 1, span(0, 0), api.ErrRange}, {span(-most, most), -1, span(0, 0), api.ErrRange},
		// Here d is not valid, although the sum would be.
		{span(most, most), -most - 1, span(0, 0), api.ErrRange}, {span(-most, -most), most + 1, span(0, 0), api.ErrRange}, {span(-most, 0), most + 1, span(0, 0), api.ErrRange},
		{span(0, 0), 1<<63 - 1, span(0, 0), api.ErrRange}, {span(0, 0), -1 << 63, span(0, 0), api.ErrRange},
		{span(2, 1), 0, span(0, 0), api.ErrForm}, {span(2, 1), most + 1, span(0, 0), api.ErrForm}, {span(0, most+1), -1, span(0, 0), api.ErrForm}, {span(-most-1, 0), 1, span(0, 0), api.ErrForm},
	} {
		got, e := interval.Shift(c.a, c.d)
		check(t, "Shift", []any{c.a, c.d}, got, e, c.want, c.e)
	}
}

func TestShift(t *testing.T) {
	for _, a := range append(wides(), smalls(3)...) {
		for _, d := range ends() {
			want, wanted := standardSpan([]api.Span{a}, standardInstant(number(d)), plus(a.Lo, d), plus(a.Hi, d))
			got, e := interval.Shift(a, d)
			check(t, "Shift", []any{a, d}, got, e, want, wanted)
		}
	}
}

func TestKnownGrow(t *testing.T) {
	for _, c := range []struct {
		a              api.Span
		before, behind int
		want           api.Span
		e              api.Errno
	}{
		{span(1, 2), 3, 5, span(-2, 7), api.OK}, {span(1, 2), 0, 0, span(1, 2), api.OK}, {span(1, 2), 0, 1, span(1, 3), api.OK}, {span(1, 2), 1, 0, span(0, 2), api.OK},
		{span(0, 0), most, most, span(-most, most), api.OK}, {span(-most, most), 0, 0, span(-most, most), api.OK}, {span(most, most), most, 0, span(0, most), api.OK},
		{span(1, 1), 0, most, span(0, 0), api.ErrRange}, {span(-1, -1), most, 0, span(0, 0), api.ErrRange}, {span(-most, most), 1, 0, span(0, 0), api.ErrRange}, {span(-most, most), 0, 1, span(0, 0), api.ErrRange},
		// Here one number is not valid, although the result would be.
		{span(1, 9), -1, 0, span(0, 0), api.ErrRange}, {span(1, 9), 0, -1, span(0, 0), api.ErrRange}, {span(1, 9), 5, -5, span(0, 0), api.ErrRange},
		{span(most, most), most + 1, 0, span(0, 0), api.ErrRange}, {span(-most, -most), 0, most + 1, span(0, 0), api.ErrRange},
		{span(0, 0), 1<<63 - 1, 0, span(0, 0), api.ErrRange}, {span(0, 0), 0, 1<<63 - 1, span(0, 0), api.ErrRange}, {span(0, 0), -1 << 63, 0, span(0, 0), api.ErrRange}, {span(0, 0), 0, -1 << 63, span(0, 0), api.ErrRange},
		{span(2, 1), 1, 1, span(0, 0), api.ErrForm}, {span(2, 1), -1, -1, span(0, 0), api.ErrForm}, {span(0, most+1), 0, 0, span(0, 0), api.ErrForm}, {span(-most-1, 0), 0, 0, span(0, 0), api.ErrForm},
	} {
		got, e := interval.Grow(c.a, c.before, c.behind)
		check(t, "Grow", []any{c.a, c.before, c.behind}, got, e, c.want, c.e)
	}
}

func TestGrow(t *testing.T) {
	fits := func(d int) bool { return d >= 0 && standardInstant(number(d)) }
	for _, a := range append(wides(), smalls(3)...) {
		for _, before := range ends() {
			for _, behind := range ends() {
				want, wanted := standardSpan([]api.Span{a}, fits(before) && fits(behind), minus(a.Lo, before), plus(a.Hi, behind))
				got, e := interval.Grow(a, before, behind)
				check(t, "Grow", []any{a, before, behind}, got, e, want, wanted)
			}
		}
	}
}
