package smear_test

import (
	"math"
	"slices"
	"testing"

	"sectime/api"
	"sectime/smear"
)

func TestErrorsOfInstants(t *testing.T) {
	for _, l := range valids() {
		for _, at := range outside(earliest, latest) {
			checkSmear(t, l, at, 0, api.ErrRange)
			checkError(t, l, at, 0, api.ErrRange)
		}
		for _, s := range outside(least, greatest) {
			checkClear(t, l, s, api.Span{}, api.ErrRange)
		}
	}
}

// Behind its last second UTC has no reading, although the clock shows something.
func TestErrorsOfTime(t *testing.T) {
	for offset, signs := range []string{"", "-", "--", "---"} {
		l := steps(0, day, 2*day, signs)
		end := latest + (1-offset)*second
		for _, at := range []int{end - 1, end, end + 1, latest - 1, latest} {
			if at > latest {
				checkError(t, l, at, 0, api.ErrRange)
				continue
			}
			checkSmear(t, l, at, at+offset*second, api.OK)
			if at < end {
				checkError(t, l, at, 0, api.OK)
			} else {
				checkError(t, l, at, 0, api.ErrTime)
			}
		}
	}
}

// No function looks at its other arguments if the table is not valid.
func TestErrorsOfTables(t *testing.T) {
	for _, l := range invalids() {
		for _, n := range []int{math.MinInt, -1, 0, 1, 2, 64, 65, 99999, earliest - 1, earliest, least - 1, least, 820810 * second, greatest, greatest + 1, latest, latest + 1, math.MaxInt} {
			checkWindow(t, l, n, api.Span{}, api.Span{}, api.ErrForm)
			checkSmear(t, l, n, 0, api.ErrForm)
			checkClear(t, l, n, api.Span{}, api.ErrForm)
			checkError(t, l, n, 0, api.ErrForm)
		}
	}
}

// Nothing of a table changes, nor what lies behind it, and equal arguments have equal results.
func TestMemory(t *testing.T) {
	behind := []api.LeapSecond{{At: 2 * 864000, Offset: 11}, {At: 1, Offset: 7}}
	l := both()
	l.List = append(l.List, behind...)[:2]
	for range 2 {
		checkWindow(t, l, 0, inSeconds(820800, 907200), inSeconds(820810, 907211), api.OK)
		checkWindow(t, l, 2, api.Span{}, api.Span{}, api.ErrRange)
		checkSmear(t, l, 3*864000*second, (3*864000-10)*second, api.OK)
		checkClear(t, l, 3*864000*second, inSeconds(3*864000+10, 3*864000+10), api.OK)
		checkError(t, l, 864010*second, -524282, api.OK)
	}
	if _, _, e := smear.Window(l, 1); e != api.OK || l.First != 10 || !slices.Equal(l.List, both().List) || !slices.Equal(l.List[:4][2:], behind) {
		t.Errorf("the table changed: %v", l)
	}
}
