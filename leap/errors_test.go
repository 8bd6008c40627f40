package leap_test

import (
	"slices"
	"testing"

	"sectime/api"
	"sectime/leap"
)

// No function looks at its other arguments if the table is not valid.
func TestErrorsOfTables(t *testing.T) {
	for _, l := range invalids() {
		if leap.Valid(l) {
			t.Fatalf("%s is valid", brief(l))
		}
		for _, n := range []int{-1 << 63, -1, 0, 5, day - 1, 3*day - 1, latest, latest + 1, 1<<63 - 1} {
			checkOffsets(t, l, n, 0, 0, api.ErrForm)
			checkUTC(t, l, n, api.UTC{}, api.ErrForm)
			for _, ticks := range []int{-1, 0, perSecond} {
				checkTAI(t, l, api.UTC{Second: n, Ticks: ticks}, 0, api.ErrForm)
				checkTAI(t, l, api.UTC{Second: n, Leap: true, Ticks: ticks}, 0, api.ErrForm)
				checkNumber(t, l, n, ticks, api.Span{}, api.ErrForm)
			}
		}
	}
}

// Nothing of a table changes, nor what lies behind it, and equal arguments have equal results.
func TestMemory(t *testing.T) {
	want := table(10, 8640000, 11, 17280000, 10)
	behind := table(0, 25920000, 11, 1, 7).List
	l := want
	l.List = append(slices.Clone(want.List), behind...)[:2]
	for range 2 {
		if !leap.Valid(l) {
			t.Errorf("%v is not valid", l)
		}
		checkOffsets(t, l, 25920000, 10, 0, api.OK)
		checkOffsets(t, l, 25919999, 10, 0, api.OK)
		checkTAI(t, l, reading(8639999, true), 8640010*perSecond, api.OK)
		checkUTC(t, l, 8640010*perSecond, reading(8639999, true), api.OK)
		checkUTC(t, l, 25920010*perSecond, reading(25920000, false), api.OK)
		checkNumber(t, l, 25919999, 0, api.Span{Lo: 25920009 * perSecond, Hi: 25920009 * perSecond}, api.OK)
	}
	if l.First != 10 || !slices.Equal(l.List, want.List) || !slices.Equal(l.List[:4][2:], behind) {
		t.Errorf("the table changed: %v", l)
	}
}
