package smear_test

import (
	"fmt"
	"math"
	"math/big"
	"math/rand"
	"sort"

	"sectime/api"
)

// The definitions of the chapter, and tables that are held against them.

const (
	second   = 1 << 20
	day      = 86400
	earliest = 1 << 27      // the first instant that Smear takes
	latest   = 1 << 58      // the last one
	least    = 1 << 28      // the first reading that Clear takes
	greatest = 1 << 57      // the last one
	latestAt = 137438899200 // the last midnight up to 2^37
)

// both is a table with an inserted second and one that is left out, as near to each other as the form permits.
func both() api.Leaps {
	return api.Leaps{First: 10, List: []api.LeapSecond{{At: 864000, Offset: 11}, {At: 1036800, Offset: 10}}}
}

// steps returns a table with an element for each character, + or -, the first one at, the others so many seconds after each other.
func steps(first, at, apart int, signs string) api.Leaps {
	l := api.Leaps{First: first}
	for _, c := range signs {
		first += map[rune]int{'+': 1, '-': -1}[c]
		l.List = append(l.List, api.LeapSecond{At: at, Offset: first})
		at += apart
	}
	return l
}

// repeated returns n characters.
func repeated(s string, n int) string {
	var b []byte
	for k := range n {
		b = append(b, s[k%len(s)])
	}
	return string(b)
}

// brief is the beginning of a table as a text.
func brief(l api.Leaps) string {
	return fmt.Sprint(len(l.List), " after ", l.First, ": ", l.List[:min(4, len(l.List))])
}

// valids are tables at all bounds of the form, and some between.
func valids() []api.Leaps {
	l := []api.Leaps{
		{}, {First: 10, List: []api.LeapSecond{}}, {First: 100}, both(),
		steps(0, day, 0, "+"), steps(0, day, 0, "-"), steps(100, day, 0, "+"), steps(100, day, 0, "-"),
		steps(0, latestAt, 0, "+"), steps(0, latestAt, 0, "-"), steps(100, latestAt, 0, "+"), steps(100, latestAt, 0, "-"),
	}
	for _, signs := range []string{"+", "-", "+-", "-+", "++--"} {
		for _, n := range []int{2, 64} {
			l = append(l, steps(0, day, 2*day, repeated(signs, n)), steps(100, latestAt-2*day*(n-1), 2*day, repeated(signs, n)), steps(36, 5*day, 9*day, repeated(signs, n)))
		}
	}
	r := rand.New(rand.NewSource(31))
	for n := range 12 {
		x := api.Leaps{First: r.Intn(101)}
		at, offset := 0, x.First
		for range 1 + n*5 {
			at += day * (2 + r.Intn(1<<r.Intn(15)))
			offset += 2*r.Intn(2) - 1
			x.List = append(x.List, api.LeapSecond{At: at, Offset: offset})
		}
		l = append(l, x)
	}
	return l
}

// invalids are tables that are not valid, each by one number.
func invalids() []api.Leaps {
	l := []api.Leaps{{First: -1}, {First: 101}, {First: math.MinInt}, {First: math.MaxInt}, steps(0, day, 2*day, repeated("+", 65)), {List: make([]api.LeapSecond, 100000)}}
	for _, x := range []api.LeapSecond{{At: 0, Offset: 11}, {At: -day, Offset: 11}, {At: day - 1, Offset: 11}, {At: day + 1, Offset: 9}, {At: latestAt + day, Offset: 11}, {At: math.MaxInt, Offset: 11}, {At: math.MinInt, Offset: 9}, {At: day, Offset: 10}, {At: day, Offset: 12}, {At: day, Offset: 8}, {At: day, Offset: math.MinInt}, {At: day, Offset: math.MaxInt}} {
		l = append(l, api.Leaps{First: 10, List: []api.LeapSecond{x}})
	}
	return append(l, steps(10, day, day, "++"), steps(10, day, 0, "+-"), steps(10, 9*day, -2*day, "+-"))
}

// outside are numbers that are not from lo to hi.
func outside(lo, hi int) []int {
	l := []int{lo - 1, lo - 2, hi + 1, hi + 2, math.MinInt, math.MinInt + 1, math.MaxInt - 1, math.MaxInt}
	for _, n := range []int{0, 1, 2, 64, second, 1 << 26, 1 << 27, 1 << 28, 1 << 57, 1 << 58, 1 << 59, 1 << 60, 1 << 62} {
		for _, m := range []int{n, -n} {
			if m < lo || m > hi {
				l = append(l, m)
			}
		}
	}
	return l
}

// standardWindow returns the window of the element i, which there is.
func standardWindow(l api.Leaps, i int) (api.Span, api.Span) {
	before := l.First
	if i > 0 {
		before = l.List[i-1].Offset
	}
	from := api.Span{Lo: (l.List[i].At - 43200) * second, Hi: (l.List[i].At + 43200) * second}
	return from, api.Span{Lo: from.Lo + before*second, Hi: from.Hi + l.List[i].Offset*second}
}

// standardSmear looks for t in the windows, and if it is in none for the last one that has ended.
func standardSmear(l api.Leaps, t int) int {
	before, offset := l.First, l.First
	for i, x := range l.List {
		from, to := standardWindow(l, i)
		if t >= to.Lo && t < to.Hi {
			n := new(big.Int).Mul(big.NewInt(int64(t-to.Lo)), big.NewInt(86400))
			// Div rounds down for a divisor above 0.
			n.Div(n, big.NewInt(int64(86400+x.Offset-before)))
			return from.Lo + int(n.Int64())
		}
		if to.Hi <= t {
			offset = x.Offset
		}
		before = x.Offset
	}
	return t - second*offset
}

// standardClear looks for the ends of the span among all instants, as what is shown never decreases.
func standardClear(l api.Leaps, s int) (api.Span, api.Errno) {
	first := func(shown int) int {
		return earliest + sort.Search(latest-earliest+1, func(k int) bool { return standardSmear(l, earliest+k) >= shown })
	}
	at := api.Span{Lo: first(s), Hi: first(s+1) - 1}
	if at.Lo > at.Hi {
		return api.Span{}, api.ErrNone
	}
	return at, api.OK
}

// from returns those of the numbers that are from lo to hi, ascending.
func from(numbers []int, lo, hi int) []int {
	var l []int
	for _, n := range numbers {
		if n >= lo && n <= hi {
			l = append(l, n)
		}
	}
	sort.Ints(l)
	return l
}

// near are instants, or readings, near the ends and the middle of every window, at the bounds, and some between.
func near(l api.Leaps, r *rand.Rand) []int {
	n := []int{earliest, earliest + 1, least, least + 1, greatest - 1, greatest, latest - second, latest - 1, latest}
	add := func(t, width int) {
		for d := -width; d <= width; d++ {
			n = append(n, t+d)
		}
	}
	for i := range l.List {
		from, to := standardWindow(l, i)
		for _, x := range []api.Span{from, to} {
			add(x.Lo, 3)
			add(x.Hi, 3)
			add(x.Lo+43200*second, 2)
			add(x.Hi-43200*second, 2)
			n = append(n, x.Lo-second, x.Lo+second, x.Hi-second, x.Hi+second, x.Lo-day*second, x.Hi+day*second)
			// Here the clock has stood still for a tick, or gone on by two.
			for _, k := range []int{1, 2, 43200, second/2 + 1, second - 1, r.Intn(second)} {
				add(x.Lo+k*86400, 2)
				add(x.Lo+k*86401, 2)
				add(x.Lo+k*86399, 2)
			}
			for range 4 {
				n = append(n, x.Lo+r.Intn(x.Hi-x.Lo))
			}
		}
	}
	for range 50 {
		n = append(n, r.Intn(1<<(28+r.Intn(31))))
	}
	return n
}
