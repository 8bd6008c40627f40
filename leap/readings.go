package leap

import (
	"sectime/api"
	"sectime/ticks"
)

const perSecond = 1 << api.TickBits // ticks of a second

// TAI returns the instant of a reading.
func TAI(l api.Leaps, u api.UTC) (int, api.Errno) {
	if e := errorOfReading(l, u.Second, u.Ticks); e != api.OK {
		return 0, e
	}
	if !shows(step(l, u.Second), u.Leap) {
		return 0, api.ErrNone
	}
	return instant(l, u), api.OK
}

// UTC returns the reading at an instant.
func UTC(l api.Leaps, t int) (api.UTC, api.Errno) {
	if !Valid(l) {
		return api.UTC{}, api.ErrForm
	}
	u := shown(l, ticks.Second(t))
	if !known(u.Second) {
		return api.UTC{}, api.ErrTime
	}
	u.Ticks = ticks.Part(t)
	return u, api.OK
}

// Number returns the span from the first to the last instant at which a clock that does not tell inserted seconds apart shows these numbers.
func Number(l api.Leaps, second, ticks int) (api.Span, api.Errno) {
	if e := errorOfReading(l, second, ticks); e != api.OK {
		return api.Span{}, e
	}
	behind := step(l, second)
	if !shows(behind, false) {
		return api.Span{}, api.ErrNone
	}
	return api.Span{
		Lo: instant(l, api.UTC{Second: second, Ticks: ticks}),
		Hi: instant(l, api.UTC{Second: second, Leap: behind == inserted, Ticks: ticks}),
	}, api.OK
}

// errorOfReading returns the error of a table and the numbers of a reading.
func errorOfReading(l api.Leaps, second, ticks int) api.Errno {
	if e := errorOf(l, second); e != api.OK {
		return e
	}
	if ticks < 0 || ticks >= perSecond {
		return api.ErrRange
	}
	return api.OK
}

// shows reports whether UTC shows a second with this step behind it, or the inserted one behind that second.
func shows(step int, leap bool) bool {
	switch step {
	case leftOut:
		return false
	case ordinary:
		return !leap
	}
	return true
}

// instant returns the instant of a reading that UTC shows.
func instant(l api.Leaps, u api.UTC) int {
	n := u.Second + offset(l, u.Second)
	if u.Leap {
		n++
	}
	return n<<api.TickBits + u.Ticks
}

// shown returns the reading at the beginning of the second n of TAI, also for one ahead of the first second of UTC, or behind the last.
func shown(l api.Leaps, n int) api.UTC {
	before := l.First
	for _, x := range l.List {
		begins := x.At + x.Offset
		// Neither offset holds in an inserted second: the one before would lead to the second behind it, the new one to that ahead of it.
		if n == begins-1 && x.Offset > before {
			return api.UTC{Second: x.At - 1, Leap: true}
		}
		if n < begins {
			break
		}
		before = x.Offset
	}
	return api.UTC{Second: n - before}
}
