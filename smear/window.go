package smear

import (
	"sectime/api"
	"sectime/ticks"
)

// Window returns the day, from noon to noon, in which the clock takes in the element i: as the clock shows it, and the instants of its ends.
func Window(l api.Leaps, i int) (api.Span, api.Span, api.Errno) {
	if e := errorOf(l, i, 0, len(l.List)-1); e != api.OK {
		return api.Span{}, api.Span{}, e
	}
	from, to := window(l, i)
	return from, to, api.OK
}

// window is Window for an element of a valid table.
func window(l api.Leaps, i int) (from, to api.Span) {
	x, old := l.List[i], l.First
	if i > 0 {
		old = l.List[i-1].Offset
	}
	begin, end := x.At-halfDay, x.At+halfDay
	from = api.Span{Lo: begin << api.TickBits, Hi: end << api.TickBits}
	to = api.Span{Lo: (begin + old) << api.TickBits, Hi: (end + x.Offset) << api.TickBits}
	return from, to
}

// seconds returns how many seconds a window has, of which the clock shows 86400.
func seconds(to api.Span) int {
	return ticks.Second(to.Hi - to.Lo)
}
