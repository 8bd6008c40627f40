package leap_test

import (
	"math/rand"
	"testing"

	"sectime/api"
	"sectime/leap"
)

func checkTAI(t *testing.T, l api.Leaps, u api.UTC, want int, wanted api.Errno) {
	t.Helper()
	if got, e := leap.TAI(l, u); got != want || e != wanted {
		t.Fatalf("TAI of %v in %s is %d and %v, want %d and %v", u, brief(l), got, e, want, wanted)
	}
}

func checkUTC(t *testing.T, l api.Leaps, at int, want api.UTC, wanted api.Errno) {
	t.Helper()
	if got, e := leap.UTC(l, at); got != want || e != wanted {
		t.Fatalf("UTC of %d in %s is %v and %v, want %v and %v", at, brief(l), got, e, want, wanted)
	}
}

func checkNumber(t *testing.T, l api.Leaps, second, ticks int, want api.Span, wanted api.Errno) {
	t.Helper()
	if got, e := leap.Number(l, second, ticks); got != want || e != wanted {
		t.Fatalf("Number of %d and %d in %s is %v and %v, want %v and %v", second, ticks, brief(l), got, e, want, wanted)
	}
}

// reading returns a reading at the beginning of a second, or of the inserted one behind it.
func reading(second int, leap bool) api.UTC {
	return api.UTC{Second: second, Leap: leap}
}

func TestKnownReadings(t *testing.T) {
	both := table(10, 8640000, 11, 17280000, 10)
	down := table(0, day, -1, 3*day, -2)
	for _, c := range []struct {
		l api.Leaps
		u api.UTC
		n int
	}{
		{api.Leaps{}, reading(0, false), 0}, {api.Leaps{}, reading(latest, false), latest}, {api.Leaps{First: 100}, reading(0, false), 100}, {api.Leaps{First: 100}, reading(latest, false), latest + 100},
		{both, reading(0, false), 10}, {both, reading(8639999, false), 8640009}, {both, reading(8639999, true), 8640010}, {both, reading(8640000, false), 8640011},
		{both, reading(17279998, false), 17280009}, {both, reading(17280000, false), 17280010}, {both, reading(latest, false), latest + 10},
		{down, reading(day-2, false), day - 2}, {down, reading(day, false), day - 1}, {down, reading(3*day-2, false), 3*day - 3}, {down, reading(3*day, false), 3*day - 2}, {down, reading(latest, false), latest - 2},
		{table(0, latestAt, 1), reading(latestAt-1, true), latestAt}, {table(0, latestAt, 1), reading(latestAt, false), latestAt + 1},
		// The last second of 2016 in UTC was 00:00:36 in TAI of 2017.
		{history(), reading(3692217599, false), 3692217635}, {history(), reading(3692217599, true), 3692217636}, {history(), reading(3692217600, false), 3692217637},
		{history(), reading(2287785599, true), 2287785610}, {history(), reading(0, false), 10},
		{steps(100, day, 2*day, repeated("+", 64)), reading(latest, false), latest + 164}, {steps(0, day, 2*day, repeated("-", 64)), reading(latest, false), latest - 64},
	} {
		for _, ticks := range []int{0, 1, 5, perSecond / 2, perSecond - 1} {
			c.u.Ticks = ticks
			checkTAI(t, c.l, c.u, c.n*perSecond+ticks, api.OK)
			checkUTC(t, c.l, c.n*perSecond+ticks, c.u, api.OK)
		}
	}
}

func TestNoReadings(t *testing.T) {
	both := table(10, 8640000, 11, 17280000, 10)
	for _, c := range []struct {
		u    api.UTC
		want api.Errno
	}{
		{reading(17279999, false), api.ErrNone}, {reading(17279999, true), api.ErrNone}, {reading(17279998, true), api.ErrNone}, {reading(17280000, true), api.ErrNone},
		{reading(8639998, true), api.ErrNone}, {reading(8640000, true), api.ErrNone}, {reading(0, true), api.ErrNone}, {reading(day-1, true), api.ErrNone}, {reading(latest, true), api.ErrNone},
		{api.UTC{Second: 17279999, Ticks: perSecond - 1}, api.ErrNone}, {api.UTC{Second: 17279999, Ticks: perSecond}, api.ErrRange}, {api.UTC{Second: 17279999, Leap: true, Ticks: -1}, api.ErrRange},
		{reading(-1, false), api.ErrRange}, {reading(-1, true), api.ErrRange}, {reading(latest+1, false), api.ErrRange}, {reading(latest+1, true), api.ErrRange},
		{api.UTC{Ticks: perSecond}, api.ErrRange}, {api.UTC{Ticks: -1}, api.ErrRange}, {api.UTC{Second: 1, Ticks: -perSecond}, api.ErrRange}, {api.UTC{Second: 8639999, Leap: true, Ticks: perSecond}, api.ErrRange},
	} {
		checkTAI(t, both, c.u, 0, c.want)
	}
}

func TestNoTime(t *testing.T) {
	for _, l := range valids() {
		first, end := l.First*perSecond, (latest+standardOffset(l, latest)+1)*perSecond
		checkUTC(t, l, first, reading(0, false), api.OK)
		checkUTC(t, l, end-1, api.UTC{Second: latest, Ticks: perSecond - 1}, api.OK)
		for _, at := range []int{first - 1, first - perSecond, -1, -perSecond, -1 << 60, -1<<60 - 1, -1 << 63, end, end + perSecond, 1 << 60, 1<<60 + 1, 1<<63 - 1} {
			checkUTC(t, l, at, api.UTC{}, api.ErrTime)
		}
	}
}

// A clock that shows one second after the other, with those inserted and without those left out, shows the readings of ascending seconds.
func TestClock(t *testing.T) {
	for first, signs := range map[int]string{0: "--+", 1: "-+-", 37: "+-+", 100: "++-"} {
		l := steps(first, 2*day, 2*day, signs)
		n := first
		show := func(u api.UTC) {
			u.Ticks = u.Second * 7 % perSecond
			checkTAI(t, l, u, n*perSecond+u.Ticks, api.OK)
			checkUTC(t, l, n*perSecond+u.Ticks, u, api.OK)
			n++
		}
		for second := range 8 * day {
			sign := byte(0)
			if last := second + 1; last%(2*day) == 0 && last/(2*day) <= len(signs) {
				sign = signs[last/(2*day)-1]
			}
			if sign != '-' {
				show(reading(second, false))
			}
			if sign == '+' {
				show(reading(second, true))
			}
		}
	}
}

func TestReadings(t *testing.T) {
	r := rand.New(rand.NewSource(22))
	for _, l := range valids() {
		for _, second := range around(l) {
			for _, ticks := range []int{-1, 0, 1, r.Intn(perSecond), perSecond - 1, perSecond} {
				for _, leap := range []bool{false, true} {
					u := api.UTC{Second: second, Leap: leap, Ticks: ticks}
					want, wanted := standardTAI(l, u)
					checkTAI(t, l, u, want, wanted)
					if wanted == api.OK {
						checkUTC(t, l, want, u, api.OK)
					}
				}
				want, wanted := standardNumber(l, second, ticks)
				checkNumber(t, l, second, ticks, want, wanted)
			}
		}
	}
}

func TestNumbersBeyond(t *testing.T) {
	for _, l := range []api.Leaps{{}, table(10, 172800, 11), table(10, 172800, 9), history()} {
		for _, second := range append(ends(), 172799) {
			for _, ticks := range append(ends(), 5) {
				want, wanted := standardNumber(l, second, ticks)
				checkNumber(t, l, second, ticks, want, wanted)
				for _, leap := range []bool{false, true} {
					u := api.UTC{Second: second, Leap: leap, Ticks: ticks}
					want, wanted := standardTAI(l, u)
					checkTAI(t, l, u, want, wanted)
				}
			}
		}
	}
}

// Each instant has the one reading whose TAI it is, and lies in the Number of this reading.
func TestInstants(t *testing.T) {
	for _, l := range []api.Leaps{{}, {First: 100}, table(10, 172800, 11), table(10, 172800, 9), table(0, day, -1, 3*day, 0), table(100, day, 101, 3*day, 102), table(3, 5*day, 2, latestAt, 1), history(), steps(0, day, 2*day, repeated("-", 64)), steps(100, day, 2*day, repeated("+", 64))} {
		instants := ends()
		for _, second := range []int{0, latest} {
			instants = append(instants, near(l, second)...)
		}
		for k := 0; k < len(l.List); k += 1 + len(l.List)/8 {
			instants = append(instants, near(l, l.List[k].At)...)
		}
		for _, at := range instants {
			found := standardUTC(l, at)
			if len(found) == 0 {
				checkUTC(t, l, at, api.UTC{}, api.ErrTime)
				continue
			}
			if len(found) > 1 {
				t.Fatalf("%d has the readings %v in %s", at, found, brief(l))
			}
			checkUTC(t, l, at, found[0], api.OK)
			s, e := leap.Number(l, found[0].Second, found[0].Ticks)
			if e != api.OK || at < s.Lo || at > s.Hi {
				t.Errorf("Number of %v in %s is %v and %v, without %d", found[0], brief(l), s, e, at)
			}
		}
	}
}

// near are instants in the seconds of TAI around the beginning of a second of UTC.
func near(l api.Leaps, second int) []int {
	var instants []int
	for n := -4; n <= 4; n++ {
		at := (second + standardOffset(l, second) + n) * perSecond
		instants = append(instants, at-1, at, at+1, at+perSecond/2)
	}
	return instants
}

func TestKnownNumbers(t *testing.T) {
	up, down := table(10, 172800, 11), table(10, 172800, 9)
	instant := func(n, ticks int) api.Span {
		return api.Span{Lo: n*perSecond + ticks, Hi: n*perSecond + ticks}
	}
	wide := func(n, ticks int) api.Span {
		return api.Span{Lo: n*perSecond + ticks, Hi: (n+1)*perSecond + ticks}
	}
	for _, c := range []struct {
		l             api.Leaps
		second, ticks int
		want          api.Span
		e             api.Errno
	}{
		{up, 172799, 5, wide(172809, 5), api.OK}, {up, 172799, 0, wide(172809, 0), api.OK}, {up, 172799, perSecond - 1, wide(172809, perSecond-1), api.OK},
		{up, 172798, 5, instant(172808, 5), api.OK}, {up, 172800, 5, instant(172811, 5), api.OK}, {up, 0, 0, instant(10, 0), api.OK}, {up, latest, perSecond - 1, instant(latest+11, perSecond-1), api.OK},
		{up, 172799, -1, api.Span{}, api.ErrRange}, {up, 172799, perSecond, api.Span{}, api.ErrRange}, {up, -1, 0, api.Span{}, api.ErrRange}, {up, latest + 1, 0, api.Span{}, api.ErrRange},
		{down, 172799, 5, api.Span{}, api.ErrNone}, {down, 172799, 0, api.Span{}, api.ErrNone}, {down, 172799, perSecond, api.Span{}, api.ErrRange}, {down, 172799, -1, api.Span{}, api.ErrRange},
		{down, 172798, 7, instant(172808, 7), api.OK}, {down, 172800, 7, instant(172809, 7), api.OK},
		{history(), 3692217599, 0, wide(3692217635, 0), api.OK}, {api.Leaps{}, latest, 0, instant(latest, 0), api.OK},
	} {
		checkNumber(t, c.l, c.second, c.ticks, c.want, c.e)
	}
}
