package leap_test

import (
	"testing"

	"sectime/api"
	"sectime/leap"
)

func TestKnownValid(t *testing.T) {
	for _, l := range []api.Leaps{
		{}, {First: 100}, {List: []api.LeapSecond{}},
		table(0, day, 1), table(0, day, -1), table(100, day, 101), table(0, latestAt, 1),
		table(0, day, 1, 3*day, 2), table(0, day, 1, 3*day, 0), table(0, day, -1, latestAt, -2), table(0, latestAt-2*day, 1, latestAt, 0),
		steps(100, day, 2*day, repeated("+", 64)), steps(0, day, 2*day, repeated("-", 64)), history(),
	} {
		if !leap.Valid(l) {
			t.Errorf("%s is not valid", brief(l))
		}
	}
	for _, l := range []api.Leaps{
		{First: -1}, {First: 101}, {First: -1 << 63}, {First: 1<<63 - 1},
		table(101, day, 102), table(-1, day, 0), table(101, day, 100),
		table(0, 0, 1), table(0, -day, 1), table(0, 1, 1), table(0, day-1, 1), table(0, day+1, 1), table(0, 3*day/2, 1),
		table(0, 1<<37, 1), table(0, latestAt+day, 1), table(0, -1<<63, 1), table(0, 1<<63-1, 1),
		table(0, day, 0), table(0, day, 2), table(0, day, -2), table(0, day, 1<<63-1), table(0, day, -1<<63), table(100, day, 0),
		table(0, day, 1, day, 2), table(0, day, 1, 2*day, 2), table(0, 3*day, 1, day, 2), table(0, day, 1, 3*day-1, 2), table(0, day, 1, 3*day+1, 2),
		table(0, day, 1, 3*day, 1), table(0, day, 1, 3*day, 3), table(0, day, 1, 3*day, -1), table(5, day, 6, 3*day, 4),
		table(0, latestAt-day, 1, latestAt, 2), table(0, latestAt, 1, latestAt+2*day, 2),
		steps(0, day, 2*day, repeated("+", 65)), steps(0, day, 2*day, repeated("+-", 66)), steps(0, day, day, "++"), steps(0, 0, 2*day, "+"),
	} {
		if leap.Valid(l) {
			t.Errorf("%s is valid", brief(l))
		}
	}
}

func TestValid(t *testing.T) {
	for _, l := range append(valids(), changed()...) {
		if got, want := leap.Valid(l), standardValid(l); got != want {
			t.Errorf("Valid of %s is %v, want %v", brief(l), got, want)
		}
	}
	for _, l := range valids() {
		if !leap.Valid(l) {
			t.Errorf("%s is not valid", brief(l))
		}
	}
}

// Tables of every length, with one element that is not valid anywhere.
func TestLengths(t *testing.T) {
	for n := range 70 {
		if got := leap.Valid(steps(50, 7*day, 2*day, repeated("++-", n))); got != (n <= 64) {
			t.Errorf("Valid of a table of %d elements is %v", n, got)
		}
		for k := range n {
			for _, bad := range []api.LeapSecond{{At: 1}, {At: -day}, {At: -2 * day}, {At: day}, {Offset: 1}, {Offset: -1}, {Offset: 4}} {
				l := steps(50, 7*day, 2*day, repeated("++-", n))
				l.List[k].At += bad.At
				l.List[k].Offset += bad.Offset
				if got, want := leap.Valid(l), standardValid(l); got != want {
					t.Errorf("Valid of %s, with another element %d, is %v, want %v", brief(l), k, got, want)
				}
			}
		}
	}
}

// checkOffsets checks Offset and Step, which have the same errors.
func checkOffsets(t *testing.T, l api.Leaps, second, offset, step int, wanted api.Errno) {
	t.Helper()
	if got, e := leap.Offset(l, second); got != offset || e != wanted {
		t.Fatalf("Offset of %s at %d is %d and %v, want %d and %v", brief(l), second, got, e, offset, wanted)
	}
	if got, e := leap.Step(l, second); got != step || e != wanted {
		t.Fatalf("Step of %s at %d is %d and %v, want %d and %v", brief(l), second, got, e, step, wanted)
	}
}

func TestKnownOffsets(t *testing.T) {
	both := table(10, 8640000, 11, 17280000, 10)
	for _, c := range []struct {
		l                    api.Leaps
		second, offset, step int
	}{
		{both, 0, 10, 0}, {both, 8639998, 10, 0}, {both, 8639999, 10, 1}, {both, 8640000, 11, 0}, {both, 8640001, 11, 0},
		{both, 17279998, 11, 0}, {both, 17279999, 11, -1}, {both, 17280000, 10, 0}, {both, latest, 10, 0},
		{api.Leaps{}, 0, 0, 0}, {api.Leaps{}, latest, 0, 0}, {api.Leaps{First: 100}, 0, 100, 0}, {api.Leaps{First: 100}, latest, 100, 0},
		{table(0, day, -1), 86398, 0, 0}, {table(0, day, -1), 86399, 0, -1}, {table(0, day, -1), 86400, -1, 0}, {table(0, day, -1), 2*day - 1, -1, 0},
		{table(7, day, 8, 3*day, 9), 3*day - 1, 8, 1}, {table(7, day, 8, 3*day, 9), 3 * day, 9, 0}, {table(7, day, 6, 3*day, 5), 3*day - 1, 6, -1}, {table(7, day, 6, 3*day, 5), 3 * day, 5, 0},
		{table(7, latestAt, 8), latestAt - 1, 7, 1}, {table(7, latestAt, 8), latestAt, 8, 0}, {table(7, latestAt, 6), latestAt - 1, 7, -1}, {table(7, latestAt, 6), latest, 6, 0},
		{history(), 3692217598, 36, 0}, {history(), 3692217599, 36, 1}, {history(), 3692217600, 37, 0}, {history(), 2287785599, 10, 1}, {history(), 2272060800, 10, 0}, {history(), latest, 37, 0},
	} {
		checkOffsets(t, c.l, c.second, c.offset, c.step, api.OK)
	}
}

func TestOffsets(t *testing.T) {
	for _, l := range valids() {
		for _, second := range append(around(l), ends()...) {
			if second < 0 || second > latest {
				checkOffsets(t, l, second, 0, 0, api.ErrRange)
				continue
			}
			checkOffsets(t, l, second, standardOffset(l, second), standardStep(l, second), api.OK)
		}
	}
}
