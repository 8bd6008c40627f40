package interval_test

import (
	"math"
	"math/big"

	"sectime/api"
)

// The definitions of the chapter: for small spans by looking at every instant, for others with integers of any length.

const most = 1 << 60 // the greatest instant

func span(lo, hi int) api.Span {
	return api.Span{Lo: lo, Hi: hi}
}

// within reports whether t is from Lo to Hi, whatever they are.
func within(s api.Span, t int) bool {
	return s.Lo <= t && t <= s.Hi
}

// smalls are all spans with ends from -n to n, also those that are not valid as they end before they begin.
func smalls(n int) []api.Span {
	var l []api.Span
	for lo := -n; lo <= n; lo++ {
		for hi := -n; hi <= n; hi++ {
			l = append(l, span(lo, hi))
		}
	}
	return l
}

// ends are numbers at and beyond the bounds of instants, and of int, and some between.
func ends() []int {
	return []int{
		math.MinInt, math.MinInt + 1, -1 << 62, -1 << 61, -most - 2, -most - 1, -most, -most + 1, -most / 2,
		-3, -1, 0, 1, 2,
		most / 2, most - 1, most, most + 1, most + 2, 1 << 61, 1<<62 - 1, 1 << 62, math.MaxInt - 1, math.MaxInt,
	}
}

// wides are all spans with these ends, most of them not valid.
func wides() []api.Span {
	var l []api.Span
	for _, lo := range ends() {
		for _, hi := range ends() {
			l = append(l, span(lo, hi))
		}
	}
	return l
}

// invalids are spans that are not valid.
func invalids() []api.Span {
	var l []api.Span
	for _, s := range wides() {
		if !standardValid(s) {
			l = append(l, s)
		}
	}
	return l
}

func number(n int) *big.Int {
	return big.NewInt(int64(n))
}

func plus(a, b int) *big.Int {
	return new(big.Int).Add(number(a), number(b))
}

func minus(a, b int) *big.Int {
	return new(big.Int).Sub(number(a), number(b))
}

func standardInstant(n *big.Int) bool {
	return n.CmpAbs(number(most)) <= 0
}

func standardValid(s api.Span) bool {
	return standardInstant(number(s.Lo)) && standardInstant(number(s.Hi)) && s.Lo <= s.Hi
}

// standardSpan is a span with these ends, if the spans it comes from are valid, its numbers are, and it is valid itself.
func standardSpan(of []api.Span, fits bool, lo, hi *big.Int) (api.Span, api.Errno) {
	for _, s := range of {
		if !standardValid(s) {
			return api.Span{}, api.ErrForm
		}
	}
	if !fits || !standardInstant(lo) || !standardInstant(hi) || lo.Cmp(hi) > 0 {
		return api.Span{}, api.ErrRange
	}
	return span(int(lo.Int64()), int(hi.Int64())), api.OK
}

// standardUnion is the spans of the instants from -n to n that are in at least one span.
func standardUnion(l []api.Span, n int) []api.Span {
	var union []api.Span
	before := false
	for t := -n; t <= n; t++ {
		now := false
		for _, s := range l {
			now = now || within(s, t)
		}
		switch {
		case now && before:
			union[len(union)-1].Hi = t
		case now:
			union = append(union, span(t, t))
		}
		before = now
	}
	return union
}

// standardCommon is the instants from -n to n that are in all spans of a list that is not empty.
func standardCommon(l []api.Span, n int) (api.Span, bool) {
	var common api.Span
	some := false
	for t := -n; t <= n; t++ {
		all := true
		for _, s := range l {
			all = all && within(s, t)
		}
		switch {
		case all && some:
			common.Hi = t
		case all:
			common, some = span(t, t), true
		}
	}
	return common, some
}
