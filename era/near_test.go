package era_test

import (
	"math"
	"math/rand"
	"testing"

	"sectime/api"
	"sectime/era"
	"sectime/ticks"
)

func checkNear(t *testing.T, at int, w uint64, want api.Span, wanted api.Errno) {
	t.Helper()
	if got, e := era.Near(at, w); got != want || e != wanted {
		t.Fatalf("Near of %d at %d is %v and %v, want %v and %v", w, at, got, e, want, wanted)
	}
}

func TestKnownNearest(t *testing.T) {
	const w = 7*fine + 9 // between the ticks 7 and 8
	for _, c := range []struct {
		at   int
		w    uint64
		want api.Span
	}{
		{0, 0, span(0, 0)},
		{0, w, span(7, 8)},
		{7, w, span(7, 8)},
		{8, w, span(7, 8)},
		{9, w, span(7, 8)},
		{-size, w, span(7-size, 8-size)},
		// Of two with the same distance the earlier one.
		{size / 2, 0, span(0, 0)},
		{size/2 - 1, 0, span(0, 0)},
		{size/2 + 1, 0, span(size, size)},
		{-size / 2, 0, span(-size, -size)},
		{-size/2 + 1, 0, span(0, 0)},
		{0, 1 << 63, span(-size/2, -size/2)},
		{1, 1 << 63, span(size/2, size/2)},
		// Between two spans of two instants there is no middle: an odd number of ticks is between their ends.
		{size/2 + 7, w, span(7, 8)},
		{size/2 + 8, w, span(size+7, size+8)},
		{size/2 - 1, math.MaxUint64, span(-1, 0)},
		{size / 2, math.MaxUint64, span(size-1, size)},
		{0, math.MaxUint64, span(-1, 0)},
		{size, math.MaxUint64, span(size-1, size)},
		{far, 0, span(far, far)},
		{far, 1, span(far, far+1)},
		{far, math.MaxUint64, span(far-1, far)},
		{far, 1 << 63, span(far-size/2, far-size/2)},
		{far, 1<<63 - 1, span(far+size/2-1, far+size/2)},
		{far, 1<<63 + 1, span(far-size/2, far-size/2+1)},
		{far, 1<<63 - fine, span(far+size/2-1, far+size/2-1)},
		{-far, 0, span(-far, -far)},
		{-far, 1, span(-far, -far+1)},
		{-far, 1 << 63, span(-far-size/2, -far-size/2)},
	} {
		checkNear(t, c.at, c.w, c.want, api.OK)
	}
}

func TestNearest(t *testing.T) {
	r := rand.New(rand.NewSource(16))
	check := func(at int, w uint64) {
		t.Helper()
		want, e := standardNear(at, w)
		checkNear(t, at, w, want, e)
	}
	for _, w := range wires() {
		for _, at := range around(w) {
			check(at, w)
		}
		for range 100 {
			check((2*r.Intn(2)-1)*r.Intn(far+1), w)
		}
	}
}

// A clock that is off by less than half an era finds the instant that was sent.
func TestNearestContainment(t *testing.T) {
	r := rand.New(rand.NewSource(17))
	for range 2000 {
		now := r.Intn(2*far+1) - far
		w, e := ticks.Wire(now)
		if e != api.OK {
			t.Fatal(now, e)
		}
		for _, off := range []int{0, 1, r.Intn(size / 2), size/2 - 1} {
			for _, at := range []int{now - off, now + off} {
				if at >= -far && at <= far {
					checkNear(t, at, w, span(now, now), api.OK)
				}
			}
		}
	}
}

func TestErrorsOfNearest(t *testing.T) {
	for _, w := range wires() {
		for _, at := range beyond(far) {
			checkNear(t, at, w, api.Span{}, api.ErrRange)
		}
	}
}
