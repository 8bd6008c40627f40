package era_test

import (
	"math"
	"math/rand"
	"slices"
	"testing"

	"sectime/api"
	"sectime/era"
	"sectime/ticks"
)

// checkUnfold checks Unfold, where nil and an empty list are the same.
func checkUnfold(t *testing.T, within api.Span, w uint64, want []api.Span, wanted api.Errno) {
	t.Helper()
	if got, e := era.Unfold(within, w); !slices.Equal(got, want) || e != wanted {
		t.Fatalf("Unfold of %d within %v is %v and %v, want %v and %v", w, within, got, e, want, wanted)
	}
}

func checkOnly(t *testing.T, within api.Span, w uint64, want api.Span, wanted api.Errno) {
	t.Helper()
	if got, e := era.Only(within, w); got != want || e != wanted {
		t.Fatalf("Only of %d within %v is %v and %v, want %v and %v", w, within, got, e, want, wanted)
	}
}

// checkBoth holds Unfold and Only against the definitions.
func checkBoth(t *testing.T, within api.Span, w uint64) {
	t.Helper()
	all, e := standardUnfold(within, w)
	checkUnfold(t, within, w, all, e)
	one, e := standardOnly(within, w)
	checkOnly(t, within, w, one, e)
}

// The example of the document.
func TestExample(t *testing.T) {
	checkOnly(t, span(size-5, size+5), 0, span(size, size), api.OK)
	checkUnfold(t, span(size-5, size+5), 0, []api.Span{span(size, size)}, api.OK)
}

func TestKnownSpans(t *testing.T) {
	const w = 7*fine + 9 // between the ticks 7 and 8
	for _, c := range []struct {
		within api.Span
		w      uint64
		want   []api.Span
		only   api.Errno
	}{
		{span(0, 100), 7 * fine, []api.Span{span(7, 7)}, api.OK},
		{span(0, 100), w, []api.Span{span(7, 8)}, api.OK},
		{span(0, 7), w, []api.Span{span(7, 8)}, api.OK},
		{span(0, 6), w, nil, api.ErrNone},
		{span(7, 7), w, []api.Span{span(7, 8)}, api.OK},
		{span(8, 8), w, []api.Span{span(7, 8)}, api.OK},
		{span(8, 20), w, []api.Span{span(7, 8)}, api.OK},
		{span(9, 20), w, nil, api.ErrNone},
		{span(8, 8), 7 * fine, nil, api.ErrNone},
		// The widest span without any, and those with one more instant.
		{span(9, size+6), w, nil, api.ErrNone},
		{span(8, size+6), w, []api.Span{span(7, 8)}, api.OK},
		{span(9, size+7), w, []api.Span{span(size+7, size+8)}, api.OK},
		{span(8, size+7), w, []api.Span{span(7, 8), span(size+7, size+8)}, api.ErrTime},
		{span(-size, 0), w, []api.Span{span(7-size, 8-size)}, api.OK},
		{span(-size, size), w, []api.Span{span(7-size, 8-size), span(7, 8)}, api.ErrTime},
		// The last timestamps of an era reach to the next one.
		{span(0, 0), math.MaxUint64, []api.Span{span(-1, 0)}, api.OK},
		{span(size, size), math.MaxUint64, []api.Span{span(size-1, size)}, api.OK},
		{span(0, size), math.MaxUint64, []api.Span{span(-1, 0), span(size-1, size)}, api.ErrTime},
		{span(1, size-1), math.MaxUint64, []api.Span{span(size-1, size)}, api.OK},
		{span(1, size-2), math.MaxUint64, nil, api.ErrNone},
		// At the bounds the spans are whole too.
		{span(most, most), 0, []api.Span{span(most, most)}, api.OK},
		{span(most, most), 1, []api.Span{span(most, most+1)}, api.OK},
		{span(most, most), fine, nil, api.ErrNone},
		{span(most, most), math.MaxUint64, []api.Span{span(most-1, most)}, api.OK},
		{span(-most, -most), 0, []api.Span{span(-most, -most)}, api.OK},
		{span(-most, -most), 1, []api.Span{span(-most, -most+1)}, api.OK},
		{span(-most, -most), math.MaxUint64, []api.Span{span(-most-1, -most)}, api.OK},
		{span(-most, -most), math.MaxUint64 - fine + 1, nil, api.ErrNone},
	} {
		one := api.Span{}
		if c.only == api.OK {
			one = c.want[0]
		}
		checkUnfold(t, c.within, c.w, c.want, api.OK)
		checkOnly(t, c.within, c.w, one, c.only)
	}
}

// Narrow and empty spans between all instants, and some of the others.
func TestSpans(t *testing.T) {
	r := rand.New(rand.NewSource(20))
	for _, w := range wires() {
		instants := around(w)
		for _, lo := range instants {
			for _, hi := range instants {
				if wide := hi - lo; wide > -3 && wide < 2*size || r.Intn(40) == 0 {
					checkBoth(t, span(lo, hi), w)
				}
			}
		}
	}
}

// As many as allowed, and one more, from every era on.
func TestLimit(t *testing.T) {
	for _, w := range []uint64{0, 1, fine, 1 << 63, 1<<63 + 1, math.MaxUint64 - fine + 1, math.MaxUint64} {
		for k := -255; k+api.MaxSpans <= 255; k++ {
			var want []api.Span
			for n := range api.MaxSpans {
				want = append(want, standardEra(k+n, w))
			}
			before, behind := standardEra(k-1, w), standardEra(k+api.MaxSpans, w)
			checkUnfold(t, span(want[0].Hi, want[api.MaxSpans-1].Lo), w, want, api.OK)
			checkUnfold(t, span(before.Hi+1, behind.Lo-1), w, want, api.OK)
			for _, within := range []api.Span{span(before.Hi, behind.Lo-1), span(before.Hi+1, behind.Lo), span(before.Hi, behind.Lo), span(-most, most)} {
				checkUnfold(t, within, w, nil, api.ErrLimit)
				checkOnly(t, within, w, api.Span{}, api.ErrTime)
			}
			checkOnly(t, span(before.Hi+1, behind.Lo-1), w, api.Span{}, api.ErrTime)
		}
	}
}

func TestErrorsOfSpans(t *testing.T) {
	l := []api.Span{span(9, 8), span(1, 0), span(0, -1), span(size, 0), span(most, -most)}
	for _, n := range beyond(most) {
		l = append(l, span(n, n), span(n, most), span(-most, n), span(n, 0), span(0, n), span(n, math.MaxInt), span(math.MinInt, n))
	}
	for _, w := range wires() {
		for _, within := range l {
			checkUnfold(t, within, w, nil, api.ErrForm)
			checkOnly(t, within, w, api.Span{}, api.ErrForm)
		}
	}
}

// A clock that is right sends a timestamp that leads back to true time, also if it shows less than a tick more or less.
func TestContainment(t *testing.T) {
	r := rand.New(rand.NewSource(15))
	check := func(now, before, width int) {
		t.Helper()
		within := span(max(now-before, -most), min(now-before+width, most))
		w, e := ticks.Wire(now)
		if e != api.OK || w != standardWire(now) {
			t.Fatalf("Wire of %d is %d and %v", now, w, e)
		}
		for _, part := range []uint64{0, 1, fine / 2, fine - 1} {
			for _, sent := range []uint64{w + part, w - part} {
				got, e := era.Only(within, sent)
				if e != api.OK || now < got.Lo || now > got.Hi || got.Hi-got.Lo > 1 {
					t.Fatalf("Only of %d within %v is %v and %v, true time is %d", sent, within, got, e, now)
				}
			}
		}
	}
	const widest = size - 3
	for _, now := range around(0) {
		for _, width := range []int{0, 1, 2, second, size / 2, widest - 1, widest} {
			check(now, 0, width)
			check(now, width, width)
			check(now, width/2, width)
		}
		for range 20 {
			width := r.Intn(widest + 1)
			check(now+r.Intn(most)/2*sign(-now), r.Intn(width+1), width)
		}
	}
}

// sign is 1 or, for a number below 0, -1.
func sign(n int) int {
	if n < 0 {
		return -1
	}
	return 1
}

// The spans of two results are in different memory, and equal arguments have equal results.
func TestMemory(t *testing.T) {
	want := []api.Span{span(5, 6), span(size+5, size+6)}
	first, e := era.Unfold(span(0, size+10), 5*fine+1)
	if e != api.OK || !slices.Equal(first, want) {
		t.Fatalf("Unfold is %v and %v", first, e)
	}
	second, _ := era.Unfold(span(0, size+10), 5*fine+1)
	clear(second[:cap(second)])
	if !slices.Equal(first, want) {
		t.Errorf("a result has changed into %v", first)
	}
	checkUnfold(t, span(0, size+10), 5*fine+1, want, api.OK)
}
