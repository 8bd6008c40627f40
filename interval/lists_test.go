package interval_test

import (
	"math/rand"
	"slices"
	"testing"

	"sectime/api"
	"sectime/interval"
)

// checkCommon checks Common, which has no error.
func checkCommon(t *testing.T, l []api.Span, want api.Span, wanted bool) {
	t.Helper()
	if got, ok := interval.Common(l); got != want || ok != wanted {
		t.Errorf("Common of %v is %v and %v, want %v and %v", l, got, ok, want, wanted)
	}
}

// checkUnion checks Union, where nil and an empty list are the same.
func checkUnion(t *testing.T, l, want []api.Span, wanted api.Errno) {
	t.Helper()
	if got, e := interval.Union(l); !slices.Equal(got, want) || e != wanted {
		t.Errorf("Union of %v is %v and %v, want %v and %v", l, got, e, want, wanted)
	}
}

// some returns n valid spans with ends from -size to size.
func some(r *rand.Rand, n, size int) []api.Span {
	l := make([]api.Span, n)
	for k := range l {
		lo := r.Intn(2*size+1) - size
		l[k] = span(lo, min(size, lo+r.Intn(size/2+1)))
	}
	return l
}

// moved returns spans moved by d.
func moved(l []api.Span, d int) []api.Span {
	var m []api.Span
	for _, s := range l {
		m = append(m, span(s.Lo+d, s.Hi+d))
	}
	return m
}

func TestKnownCommon(t *testing.T) {
	for _, c := range []struct {
		l    []api.Span
		want api.Span
		ok   bool
	}{
		{nil, span(0, 0), false}, {[]api.Span{}, span(0, 0), false},
		{[]api.Span{span(3, 7)}, span(3, 7), true}, {[]api.Span{span(-most, most)}, span(-most, most), true}, {[]api.Span{span(0, 0)}, span(0, 0), true},
		{[]api.Span{span(7, 3)}, span(0, 0), false}, {[]api.Span{span(0, most+1)}, span(0, 0), false}, {[]api.Span{span(-most-1, 0)}, span(0, 0), false},
		{[]api.Span{span(1, 9), span(4, 12), span(0, 7)}, span(4, 7), true},
		{[]api.Span{span(1, 9), span(4, 12), span(9, 30)}, span(9, 9), true},
		{[]api.Span{span(1, 9), span(4, 12), span(20, 30)}, span(0, 0), false},
		// The middle one meets both others, which do not meet.
		{[]api.Span{span(1, 3), span(2, 5), span(4, 6)}, span(0, 0), false},
		{[]api.Span{span(1, 3), span(1, 6), span(4, 6)}, span(0, 0), false},
		{[]api.Span{span(1, 3), span(3, 1)}, span(0, 0), false}, {[]api.Span{span(3, 1), span(1, 3)}, span(0, 0), false},
		{[]api.Span{span(1, 3), span(5, 6), span(3, 1)}, span(0, 0), false}, {[]api.Span{span(1, 3), span(0, most+1)}, span(0, 0), false},
	} {
		checkCommon(t, c.l, c.want, c.ok)
	}
}

func TestCommon(t *testing.T) {
	l := smalls(2)
	for _, a := range l {
		for _, b := range l {
			for _, c := range l {
				list := []api.Span{a, b, c}
				want, ok := standardCommon(list, 2)
				checkCommon(t, list, want, ok)
			}
		}
	}
}

// Common knows no limit, and one span anywhere decides.
func TestCommonOfManySpans(t *testing.T) {
	for _, n := range []int{2, 63, 64, 65, 1000} {
		for _, k := range []int{0, 1, n / 2, n - 1} {
			l := slices.Repeat([]api.Span{span(-50, 70)}, n)
			checkCommon(t, l, span(-50, 70), true)
			l[k] = span(-60, 3)
			checkCommon(t, l, span(-50, 3), true)
			l[k] = span(71, 72)
			checkCommon(t, l, api.Span{}, false)
			l[k] = span(70, -50)
			checkCommon(t, l, api.Span{}, false)
			l[k] = span(-50, most+1)
			checkCommon(t, l, api.Span{}, false)
		}
	}
}

func TestKnownUnion(t *testing.T) {
	for _, c := range []struct{ l, want []api.Span }{
		{nil, nil}, {[]api.Span{}, nil},
		{[]api.Span{span(5, 7)}, []api.Span{span(5, 7)}}, {[]api.Span{span(0, 0)}, []api.Span{span(0, 0)}},
		{[]api.Span{span(5, 7), span(1, 3)}, []api.Span{span(1, 3), span(5, 7)}},
		{[]api.Span{span(4, 7), span(1, 3)}, []api.Span{span(1, 7)}},
		{[]api.Span{span(1, 3), span(4, 7)}, []api.Span{span(1, 7)}},
		{[]api.Span{span(1, 3), span(3, 7)}, []api.Span{span(1, 7)}},
		{[]api.Span{span(1, 9), span(2, 3), span(10, 10), span(12, 13)}, []api.Span{span(1, 10), span(12, 13)}},
		{[]api.Span{span(1, 9), span(2, 3), span(5, 6)}, []api.Span{span(1, 9)}},
		{[]api.Span{span(1, 9), span(2, 3), span(11, 11)}, []api.Span{span(1, 9), span(11, 11)}},
		{[]api.Span{span(1, 1), span(3, 3), span(5, 5), span(4, 4)}, []api.Span{span(1, 1), span(3, 5)}},
		{[]api.Span{span(3, 3), span(3, 3), span(3, 8), span(3, 4)}, []api.Span{span(3, 8)}},
		{[]api.Span{span(-3, -1), span(1, 2)}, []api.Span{span(-3, -1), span(1, 2)}},
		{[]api.Span{span(0, 2), span(-3, -1)}, []api.Span{span(-3, 2)}},
		{[]api.Span{span(-most, most), span(0, 0)}, []api.Span{span(-most, most)}},
		{[]api.Span{span(most, most), span(-most, -most)}, []api.Span{span(-most, -most), span(most, most)}},
		{[]api.Span{span(0, most), span(-most, -1)}, []api.Span{span(-most, most)}},
	} {
		checkUnion(t, c.l, c.want, api.OK)
	}
}

func TestUnionOfThree(t *testing.T) {
	var l []api.Span
	for _, s := range smalls(3) {
		if standardValid(s) {
			l = append(l, s)
		}
	}
	for _, a := range l {
		for _, b := range l {
			for _, c := range l {
				list := []api.Span{a, b, c}
				checkUnion(t, list, standardUnion(list, 3), api.OK)
			}
		}
	}
}

// Lists of every length are united near 0 and at both bounds.
func TestUnion(t *testing.T) {
	r := rand.New(rand.NewSource(11))
	for n := range 65 {
		for _, size := range []int{4, 12, 100, 1000} {
			l := some(r, n, size)
			want := standardUnion(l, size)
			for _, d := range []int{0, most - size, size - most} {
				checkUnion(t, moved(l, d), moved(want, d), api.OK)
			}
		}
	}
}

// The most spans that a union may have, in any order.
func TestGreatestUnion(t *testing.T) {
	var want []api.Span
	for k := range 64 {
		want = append(want, span(2*k, 2*k))
	}
	r := rand.New(rand.NewSource(12))
	for range 20 {
		l := slices.Clone(want)
		r.Shuffle(len(l), func(i, j int) { l[i], l[j] = l[j], l[i] })
		checkUnion(t, l, want, api.OK)
	}
}

func TestErrorsOfUnion(t *testing.T) {
	for _, n := range []int{65, 66, 128, 1000, 100000} {
		checkUnion(t, make([]api.Span, n), nil, api.ErrLimit)
	}
	for _, bad := range []api.Span{span(2, 1), span(0, most+1), span(-most-1, 0), span(most, -most), span(1<<63-1, -1<<63)} {
		for _, n := range []int{1, 2, 64, 65, 66, 1000} {
			for _, k := range []int{0, n / 2, n - 1} {
				l := make([]api.Span, n)
				l[k] = bad
				checkUnion(t, l, nil, api.ErrForm)
			}
		}
	}
	for _, bad := range invalids() {
		checkUnion(t, []api.Span{span(0, 1), bad, span(5, 7)}, nil, api.ErrForm)
	}
}

// spare returns a copy of l with spans behind it that no function may read or change.
func spare(l []api.Span) []api.Span {
	return append(slices.Clone(l), span(1, 2), span(2, 1), span(3, 9))[:len(l)]
}

// unchanged reports whether a list and what lies behind it are still those of spare.
func unchanged(l, want []api.Span) bool {
	behind := l[:len(l)+3][len(l):]
	return slices.Equal(l, want) && slices.Equal(behind, []api.Span{span(1, 2), span(2, 1), span(3, 9)})
}

func TestMemoryOfLists(t *testing.T) {
	for _, want := range [][]api.Span{
		{}, {span(1, 3)}, {span(1, 3), span(5, 7)}, {span(5, 7), span(1, 3)}, {span(1, 3), span(2, 9), span(3, 12)}, {span(9, 9), span(1, 3), span(4, 7)}, some(rand.New(rand.NewSource(13)), 64, 400),
	} {
		l := spare(want)
		for range 2 {
			interval.Common(l)
			got, e := interval.Union(l)
			if united := standardUnion(want, 400); !slices.Equal(got, united) || e != api.OK {
				t.Errorf("Union of %v is %v and %v, want %v", want, got, e, united)
			}
			if !unchanged(l, want) {
				t.Errorf("a list changed: %v, want %v", l, want)
			}
			// Whatever shares the memory of the result shows now.
			got = got[:cap(got)]
			for k := range got {
				got[k] = span(-1, -2)
			}
			if !unchanged(l, want) {
				t.Errorf("Union of %v shares memory with it", want)
			}
		}
	}
}
