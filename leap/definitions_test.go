package leap_test

import (
	"fmt"
	"math"
	"math/big"
	"math/rand"
	"time"

	"sectime/api"
)

// The definitions of the chapter, and tables that are held against them.

const (
	perSecond = 1 << 20
	day       = 86400
	latest    = 1 << 38      // the last second that the program knows
	latestAt  = 137438899200 // the last midnight up to 2^37
)

// table returns a table with these pairs of an At and an Offset.
func table(first int, pairs ...int) api.Leaps {
	l := api.Leaps{First: first}
	for k := 0; k < len(pairs); k += 2 {
		l.List = append(l.List, api.LeapSecond{At: pairs[k], Offset: pairs[k+1]})
	}
	return l
}

// brief is the beginning of a table as a text.
func brief(l api.Leaps) string {
	return fmt.Sprint(len(l.List), " after ", l.First, ": ", l.List[:min(4, len(l.List))])
}

// steps returns a table with an element for each character, + or -, the first one at, the others so many seconds after each other.
func steps(first, at, apart int, signs string) api.Leaps {
	l := api.Leaps{First: first}
	for _, c := range signs {
		first += map[rune]int{'+': 1, '-': -1}[c]
		l.List = append(l.List, api.LeapSecond{At: at, Offset: first})
		at += apart
	}
	return l
}

// repeated returns n characters.
func repeated(s string, n int) string {
	var b []byte
	for k := range n {
		b = append(b, s[k%len(s)])
	}
	return string(b)
}

// history is the table of all leap seconds since 1972.
func history() api.Leaps {
	l := api.Leaps{First: 10}
	add := func(year int, month time.Month) {
		at := int(time.Date(year, month, 1, 0, 0, 0, 0, time.UTC).Sub(time.Date(1900, 1, 1, 0, 0, 0, 0, time.UTC)) / time.Second)
		l.List = append(l.List, api.LeapSecond{At: at, Offset: 11 + len(l.List)})
	}
	add(1972, 7)
	for year := 1973; year <= 1980; year++ {
		add(year, 1)
	}
	for _, year := range []int{1981, 1982, 1983, 1985} {
		add(year, 7)
	}
	for _, year := range []int{1988, 1990, 1991} {
		add(year, 1)
	}
	for _, year := range []int{1992, 1993, 1994} {
		add(year, 7)
	}
	add(1996, 1)
	add(1997, 7)
	for _, year := range []int{1999, 2006, 2009} {
		add(year, 1)
	}
	add(2012, 7)
	add(2015, 7)
	add(2017, 1)
	return l
}

// valids are tables at all bounds of the form, and some between.
func valids() []api.Leaps {
	l := []api.Leaps{
		{}, {First: 1}, {First: 10, List: []api.LeapSecond{}}, {First: 100},
		table(10, 172800, 11), table(10, 172800, 9), table(0, day, -1), table(0, day, 1), table(100, day, 101), table(100, day, 99),
		table(10, 8640000, 11, 17280000, 10), table(10, 8640000, 9, 17280000, 10), table(10, 8640000, 11, 17280000, 12), table(10, 8640000, 9, 17280000, 8),
		table(0, latestAt, 1), table(0, latestAt, -1), table(100, latestAt-2*day, 101, latestAt, 102), table(100, day, 99, latestAt, 98),
		history(),
	}
	for _, signs := range []string{"+", "-", "+-", "-+", "++-", "--+", "+++---"} {
		for _, n := range []int{3, 63, 64} {
			l = append(l, steps(0, day, 2*day, repeated(signs, n)), steps(100, latestAt-2*day*(n-1), 2*day, repeated(signs, n)), steps(36, 5*day, 3*day, repeated(signs, n)))
		}
	}
	r := rand.New(rand.NewSource(21))
	for n := range 65 {
		x := api.Leaps{First: r.Intn(101)}
		at, offset := 0, x.First
		for range n {
			at += day * (2 + r.Intn(1<<r.Intn(15)))
			offset += 2*r.Intn(2) - 1
			x.List = append(x.List, api.LeapSecond{At: at, Offset: offset})
		}
		l = append(l, x)
	}
	return l
}

// ends are numbers at and beyond the bounds of a table, of readings, of instants and of int.
func ends() []int {
	l := []int{math.MinInt, math.MinInt + 1, math.MaxInt - 1, math.MaxInt, 1<<63 - 1 - (1<<63-1)%day, -1<<63 + (1<<63)%day}
	for _, n := range []int{0, 100, day, 2 * day, 3 * day, perSecond, 1 << 31, 1 << 32, latestAt, 1 << 37, latestAt + day, latest, 1 << 58, 1 << 60, 1 << 62} {
		l = append(l, n-1, n, n+1, -n-1, -n, -n+1)
	}
	return l
}

// changed are tables that differ in a number from valid ones, most of them not valid.
func changed() []api.Leaps {
	var l []api.Leaps
	for _, base := range []api.Leaps{{}, table(0, day, 1), table(100, 3*day, 99, 5*day, 100), table(50, 3*day, 51, 9*day, 52, latestAt, 51), steps(36, day, 2*day, repeated("+", 64))} {
		for _, n := range append(ends(), 2, 37, 49, 52, 99, 101, 4*day, 5*day, 7*day) {
			first := base
			first.First = n
			l = append(l, first)
			for k := range base.List {
				at, offset := table(base.First), table(base.First)
				at.List, offset.List = append(at.List, base.List...), append(offset.List, base.List...)
				at.List[k].At, offset.List[k].Offset = n, n
				l = append(l, at, offset)
			}
		}
	}
	return l
}

// invalids are tables that are not valid.
func invalids() []api.Leaps {
	l := []api.Leaps{steps(0, day, 2*day, repeated("+", 65)), steps(0, day, 2*day, repeated("+-", 1000)), {List: make([]api.LeapSecond, 100000)}}
	for _, x := range changed() {
		if !standardValid(x) {
			l = append(l, x)
		}
	}
	return l
}

func number(n int) *big.Int {
	return big.NewInt(int64(n))
}

// apart reports whether b is from low to high greater than a.
func apart(a, b int, low, high *big.Int) bool {
	d := new(big.Int).Sub(number(b), number(a))
	return d.Cmp(low) >= 0 && d.Cmp(high) <= 0
}

func standardValid(l api.Leaps) bool {
	ok := l.First >= 0 && l.First <= 100 && len(l.List) <= 64
	for k, x := range l.List {
		ok = ok && x.At%86400 == 0 && x.At >= 86400 && x.At <= 1<<37
		before := l.First
		if k > 0 {
			before = l.List[k-1].Offset
			ok = ok && apart(l.List[k-1].At, x.At, number(172800), number(1<<37))
		}
		ok = ok && (apart(before, x.Offset, number(1), number(1)) || apart(before, x.Offset, number(-1), number(-1)))
	}
	return ok
}

func standardOffset(l api.Leaps, second int) int {
	for k := len(l.List) - 1; k >= 0; k-- {
		if l.List[k].At <= second {
			return l.List[k].Offset
		}
	}
	return l.First
}

func standardStep(l api.Leaps, second int) int {
	before := l.First
	for _, x := range l.List {
		if second+1 == x.At && x.Offset > before {
			return 1
		}
		if second+1 == x.At && x.Offset < before {
			return -1
		}
		before = x.Offset
	}
	return 0
}

func standardTAI(l api.Leaps, u api.UTC) (int, api.Errno) {
	if u.Second < 0 || u.Second > 1<<38 || u.Ticks < 0 || u.Ticks > 1<<20-1 {
		return 0, api.ErrRange
	}
	step := standardStep(l, u.Second)
	if u.Leap && step != 1 || step == -1 {
		return 0, api.ErrNone
	}
	n := u.Second + standardOffset(l, u.Second)
	if u.Leap {
		n++
	}
	return 1<<20*n + u.Ticks, api.OK
}

// standardUTC looks at all readings from which t can come, as no offset is beyond 170, and returns them.
func standardUTC(l api.Leaps, t int) []api.UTC {
	var found []api.UTC
	middle := new(big.Int)
	rest := new(big.Int)
	// DivMod rounds down for a divisor above 0.
	middle.DivMod(number(t), number(1<<20), rest)
	for d := -170; d <= 170; d++ {
		for _, leap := range []bool{false, true} {
			u := api.UTC{Second: int(middle.Int64()) + d, Leap: leap, Ticks: int(rest.Int64())}
			if got, e := standardTAI(l, u); e == api.OK && got == t {
				found = append(found, u)
			}
		}
	}
	return found
}

func standardNumber(l api.Leaps, second, ticks int) (api.Span, api.Errno) {
	lo, e := standardTAI(l, api.UTC{Second: second, Ticks: ticks})
	if e != api.OK {
		return api.Span{}, e
	}
	hi, e := standardTAI(l, api.UTC{Second: second, Leap: true, Ticks: ticks})
	if e != api.OK {
		hi = lo
	}
	return api.Span{Lo: lo, Hi: hi}, api.OK
}

// around are the seconds near those at which something of a table changes, and near the ends.
func around(l api.Leaps) []int {
	seconds := []int{0, 1, 12345, day - 1, day, latestAt, 1<<37 - 1, 1 << 37, latest - 1, latest}
	for _, x := range l.List {
		for d := -4; d <= 4; d++ {
			seconds = append(seconds, x.At+d)
		}
		seconds = append(seconds, x.At-day-1, x.At-day, x.At+day-1, x.At+day)
	}
	return seconds
}
