package smear_test

import (
	"math/rand"
	"testing"

	"sectime/api"
	"sectime/leap"
	"sectime/smear"
)

func checkSmear(t *testing.T, l api.Leaps, at, want int, wanted api.Errno) {
	t.Helper()
	if got, e := smear.Smear(l, at); got != want || e != wanted {
		t.Fatalf("Smear of %d in %s is %d and %v, want %d and %v", at, brief(l), got, e, want, wanted)
	}
}

func checkClear(t *testing.T, l api.Leaps, s int, want api.Span, wanted api.Errno) {
	t.Helper()
	if got, e := smear.Clear(l, s); got != want || e != wanted {
		t.Fatalf("Clear of %d in %s is %v and %v, want %v and %v", s, brief(l), got, e, want, wanted)
	}
}

func checkError(t *testing.T, l api.Leaps, at, want int, wanted api.Errno) {
	t.Helper()
	if got, e := smear.Error(l, at); got != want || e != wanted {
		t.Fatalf("Error at %d in %s is %d and %v, want %d and %v", at, brief(l), got, e, want, wanted)
	}
}

// The example of the document, and the ticks around it.
func TestExample(t *testing.T) {
	l := steps(10, 172800, 0, "+")
	checkSmear(t, l, 172810*second, 172800*second-524282, api.OK)
	checkError(t, l, 172810*second, -524282, api.OK)
	checkError(t, l, 172810*second-1, -524282, api.OK)
	checkClear(t, l, 172800*second-524282, api.Span{Lo: 172810 * second, Hi: 172810 * second}, api.OK)
	checkSmear(t, l, 172811*second, 172801*second-524295, api.OK)
	checkError(t, l, 172811*second-1, -524295, api.OK)
	checkError(t, l, 172811*second, second-524295, api.OK)
}

func TestKnownReadings(t *testing.T) {
	for _, c := range []struct{ at, shown, ahead int }{
		{earliest, earliest - 10*second, 0},
		{820810*second - 1, 820800*second - 1, 0},
		{820810 * second, 820800 * second, 0},
		{820810*second + 1, 820800 * second, -1},
		{820810*second + 2, 820800*second + 1, -1},
		{820810*second + 86400, 820800*second + 86399, -1},
		{820810*second + 86401, 820800*second + 86400, -1},
		{820810*second + 86402, 820800*second + 86400, -2},
		{907211*second - 1, 907200*second - 1, 0},
		{907211 * second, 907200 * second, 0},
		{907211*second + 1, 907200*second + 1, 0},
		{993611*second - 1, 993600*second - 1, 0},
		{993611*second + 86398, 993600*second + 86398, 0},
		{993611*second + 86399, 993600*second + 86400, 1},
		{1036810*second - 1, 1036799*second + 524280, 524281},
		{1036810 * second, 1036799*second + 524281, -524295},
		{1080010*second - 1, 1080000*second - 2, -1},
		{1080010 * second, 1080000 * second, 0},
		{latest, latest - 10*second, 0},
	} {
		checkSmear(t, both(), c.at, c.shown, api.OK)
		checkError(t, both(), c.at, c.ahead, api.OK)
	}
}

func TestKnownInstants(t *testing.T) {
	for _, c := range []struct{ shown, lo, wide int }{
		{least, least + 10*second, 0},
		{820800*second - 1, 820810*second - 1, 0},
		{820800 * second, 820810 * second, 1},
		{820800*second + 1, 820810*second + 2, 0},
		{820800*second + 86400, 820810*second + 86401, 1},
		{907200*second - 1, 907211*second - 1, 0},
		{907200 * second, 907211 * second, 0},
		{993600 * second, 993611 * second, 0},
		{993600*second + 86398, 993611*second + 86398, 0},
		{993600*second + 86400, 993611*second + 86399, 0},
		{1080000*second - 2, 1080010*second - 1, 0},
		{1080000 * second, 1080010 * second, 0},
		{greatest, greatest + 10*second, 0},
	} {
		checkClear(t, both(), c.shown, api.Span{Lo: c.lo, Hi: c.lo + c.wide}, api.OK)
	}
	// A clock that runs faster leaves out a tick of 86400.
	for _, s := range []int{993600*second + 86399, 993600*second + 2*86400 - 1, 1036800*second - 1, 1080000*second - 86400 - 1, 1080000*second - 1} {
		checkClear(t, both(), s, api.Span{}, api.ErrNone)
	}
}

// All results are those of the definitions, what is shown never decreases, and Clear leads back.
func TestInstants(t *testing.T) {
	r := rand.New(rand.NewSource(32))
	for _, l := range valids() {
		before := 0
		for _, at := range from(near(l, r), earliest, latest) {
			s := standardSmear(l, at)
			checkSmear(t, l, at, s, api.OK)
			checkStandardError(t, l, at, s)
			if s < before {
				t.Fatalf("%s shows %d and then %d, at %d", brief(l), before, s, at)
			}
			before = s
			if s < least || s > greatest {
				continue
			}
			back, e := smear.Clear(l, s)
			if e != api.OK || at < back.Lo || at > back.Hi || back.Hi > back.Lo+1 {
				t.Fatalf("Clear of %d in %s is %v and %v, but %d shows it", s, brief(l), back, e, at)
			}
		}
	}
}

// checkStandardError checks the Error of an instant at which s is shown.
func checkStandardError(t *testing.T, l api.Leaps, at, s int) {
	t.Helper()
	u, e := leap.UTC(l, at)
	if e != api.OK {
		checkError(t, l, at, 0, api.ErrTime)
		return
	}
	utc := second*u.Second + u.Ticks
	if u.Leap {
		utc = second*(u.Second+1) + u.Ticks
	}
	checkError(t, l, at, s-utc, api.OK)
	if s-utc > second/2+8 || s-utc < -second/2-8 {
		t.Fatalf("the clock is %d ticks ahead at %d in %s", s-utc, at, brief(l))
	}
}

func TestReadings(t *testing.T) {
	r := rand.New(rand.NewSource(33))
	for _, l := range valids() {
		for _, s := range from(near(l, r), least, greatest) {
			want, wanted := standardClear(l, s)
			checkClear(t, l, s, want, wanted)
		}
	}
}

// Every tick that is shown around the ends of a window and in it comes from one span, next to the one before.
func TestEveryTick(t *testing.T) {
	l := both()
	for i := range l.List {
		from, _ := standardWindow(l, i)
		for _, begin := range []int{from.Lo, from.Lo + 43200*second, from.Hi} {
			next, e := smear.Clear(l, begin-90001)
			if e != api.OK {
				t.Fatalf("nothing shows %d", begin-90001)
			}
			at := next.Lo
			for s := begin - 90001; s < begin+90000; s++ {
				x, e := smear.Clear(l, s)
				if e == api.ErrNone {
					x = api.Span{Lo: at, Hi: at - 1}
				}
				if x.Lo != at || e != api.OK && e != api.ErrNone {
					t.Fatalf("Clear of %d is %v and %v, want from %d on", s, x, e, at)
				}
				for ; at <= x.Hi; at++ {
					checkSmear(t, l, at, s, api.OK)
				}
			}
		}
	}
}
