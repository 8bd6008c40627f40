package smear_test

import (
	"testing"

	"sectime/api"
	"sectime/leap"
	"sectime/smear"
)

func checkWindow(t *testing.T, l api.Leaps, i int, from, to api.Span, wanted api.Errno) {
	t.Helper()
	if got, got2, e := smear.Window(l, i); got != from || got2 != to || e != wanted {
		t.Fatalf("Window %d of %s is %v, %v and %v, want %v, %v and %v", i, brief(l), got, got2, e, from, to, wanted)
	}
}

// inSeconds returns a span of whole seconds.
func inSeconds(lo, hi int) api.Span {
	return api.Span{Lo: lo * second, Hi: hi * second}
}

func TestKnownWindows(t *testing.T) {
	checkWindow(t, both(), 0, inSeconds(820800, 907200), inSeconds(820810, 907211), api.OK)
	checkWindow(t, both(), 1, inSeconds(993600, 1080000), inSeconds(993611, 1080010), api.OK)
	checkWindow(t, steps(0, day, 0, "+"), 0, inSeconds(43200, 129600), inSeconds(43200, 129601), api.OK)
	checkWindow(t, steps(0, day, 0, "-"), 0, inSeconds(43200, 129600), inSeconds(43200, 129599), api.OK)
	checkWindow(t, steps(0, day, 2*day, "--"), 1, inSeconds(216000, 302400), inSeconds(215999, 302398), api.OK)
	checkWindow(t, steps(100, latestAt, 0, "+"), 0, inSeconds(137438856000, 137438942400), inSeconds(137438856100, 137438942501), api.OK)
}

// The instants are those that layer 12 knows of the readings at noon.
func TestWindows(t *testing.T) {
	for _, l := range valids() {
		for i, x := range l.List {
			from, to := standardWindow(l, i)
			checkWindow(t, l, i, from, to, api.OK)
			lo, e := leap.TAI(l, api.UTC{Second: x.At - 43200})
			hi, e2 := leap.TAI(l, api.UTC{Second: x.At + 43200})
			if to != (api.Span{Lo: lo, Hi: hi}) || e != api.OK || e2 != api.OK {
				t.Fatalf("Window %d of %s is %v, want from %d to %d", i, brief(l), to, lo, hi)
			}
		}
	}
}

func TestNoWindows(t *testing.T) {
	for _, l := range valids() {
		for _, i := range outside(0, len(l.List)-1) {
			checkWindow(t, l, i, api.Span{}, api.Span{}, api.ErrRange)
		}
	}
}
