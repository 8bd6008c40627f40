package drift_test

import (
	"math"
	"math/big"
	"math/rand"

	"sectime/api"
)

// The definitions of the chapter, in integers of any length, and the numbers that are held against them.

const (
	most    = 1 << 60 // the greatest instant
	half    = 1 << 59 // the longest time that Elapsed, Advance and Rate take
	bound   = 1000000 // the greatest drift bound
	billion = 1000000000
)

func span(lo, hi int) api.Span {
	return api.Span{Lo: lo, Hi: hi}
}

func standardValid(s api.Span) bool {
	return s.Lo >= -most && s.Lo <= s.Hi && s.Hi <= most
}

// times is the product of two numbers.
func times(a, b int) *big.Int {
	return new(big.Int).Mul(big.NewInt(int64(a)), big.NewInt(int64(b)))
}

// standardQuotient is a b / c, rounded down, or up.
func standardQuotient(a, b, c int, up bool) int {
	product, by := times(a, b), big.NewInt(int64(c))
	if up {
		product.Add(product, by).Sub(product, big.NewInt(1))
	}
	// Div of big rounds down, for a divisor above 0.
	return int(product.Div(product, by).Int64())
}

func standardFits(e, d, ppb int) bool {
	if e < 0 || e > most || d < 0 || d > most || ppb < 0 || ppb > bound {
		return false
	}
	shown := times(d, billion)
	return times(e, billion-ppb).Cmp(shown) <= 0 && shown.Cmp(times(e, billion+ppb)) <= 0
}

func standardElapsed(d, ppb int) (api.Span, api.Errno) {
	if d < 0 || d > half || ppb < 0 || ppb > bound {
		return api.Span{}, api.ErrRange
	}
	return span(standardQuotient(d, billion, billion+ppb, false), standardQuotient(d, billion, billion-ppb, true)), api.OK
}

func standardAdvance(e, ppb int) (api.Span, api.Errno) {
	if e < 0 || e > half || ppb < 0 || ppb > bound {
		return api.Span{}, api.ErrRange
	}
	return span(standardQuotient(e, billion-ppb, billion, false), standardQuotient(e, billion+ppb, billion, true)), api.OK
}

// standardCarried is Project, with the sign 1, or Back, with the sign -1.
func standardCarried(s api.Span, d, ppb, sign int) (api.Span, api.Errno) {
	if !standardValid(s) {
		return api.Span{}, api.ErrForm
	}
	elapsed, e := standardElapsed(d, ppb)
	if e != api.OK {
		return api.Span{}, e
	}
	ends := []int{sign * elapsed.Lo, sign * elapsed.Hi}
	moved := span(s.Lo+min(ends[0], ends[1]), s.Hi+max(ends[0], ends[1]))
	if !standardValid(moved) {
		return api.Span{}, api.ErrRange
	}
	return moved, api.OK
}

// standardRate is |d - e| 10^9 / e, rounded up: Fits asks that |d - e| 10^9 is at most e ppb.
func standardRate(e, d int) (int, api.Errno) {
	switch {
	case e < 0 || e > half || d < 0 || d > half:
		return 0, api.ErrRange
	case d == e:
		return 0, api.OK
	case e == 0:
		return 0, api.ErrNone
	}
	// As d and e are at most 2^59, the quotient may have 89 bits; what is above the bound is compared before it is cut.
	off := max(d-e, e-d)
	if times(off, billion).Cmp(times(e, bound)) > 0 {
		return 0, api.ErrNone
	}
	return standardQuotient(off, billion, e, true), api.OK
}

// bounds are drift bounds: the least ones, the greatest ones and some between them.
func bounds() []int {
	return []int{0, 1, 2, 7, 50, 100, 999, 1000, 1024, 65536, 100000, 333333, 524288, 999998, 999999, bound}
}

// durations are numbers of ticks from 0 to limit: at both ends, near powers of two and of ten and near multiples of them, and some more of every length.
func durations(limit int) []int {
	l := []int{0, limit, limit - 1, limit / 2, limit - limit/1000, limit / 3}
	for n := 1; n <= limit/2; n *= 2 {
		l = append(l, n-1, n, n+1)
	}
	for _, n := range []int{10, 1000, 1000000, billion - bound, billion - 1, billion, billion + bound, 1000 * billion, billion / 1000 * (billion - bound)} {
		l = append(l, n-1, n, n+1, 3*n-1, 3*n, 3*n+1)
	}
	r := rand.New(rand.NewSource(15))
	for range 60 {
		l = append(l, r.Intn(limit)>>r.Intn(59))
	}
	return l
}

// shown are what a clock may show while true time advances by e, at the ends of what ppb permits and beside them, and some more.
func shown(e, ppb int) []int {
	lo, hi := standardQuotient(e, billion-ppb, billion, false), standardQuotient(e, billion+ppb, billion, true)
	l := []int{0, 1, e}
	for d := -3; d <= 3; d++ {
		l = append(l, lo+d, hi+d, e+d)
	}
	return append(l, e/2, 2*e, e-e/1000, e+e/1000)
}

// outside are numbers that are not from 0 to limit.
func outside(limit int) []int {
	return []int{-1, -2, -limit, -limit - 1, limit + 1, limit + 2, 2 * limit, 4*limit - 1, math.MinInt, math.MinInt + 1, math.MaxInt - 1, math.MaxInt}
}

// spans are valid ones of several widths, among them those at the bounds of an instant.
func spans() []api.Span {
	l := []api.Span{span(0, 0), span(10, 20), span(-5, 5), span(-20, -10), span(-most, most), span(-most, -most), span(most, most), span(-most, 0), span(0, most), span(-half, half), span(half, half), span(-half, -half), span(most-half, most-half+9), span(half-most-9, half-most)}
	r := rand.New(rand.NewSource(16))
	for range 20 {
		a, b := (2*r.Intn(2)-1)*(r.Intn(most)>>r.Intn(50)), r.Intn(most)>>r.Intn(60)
		l = append(l, span(a, min(a+b, most)))
	}
	return l
}

// invalid are spans that are not valid.
func invalid() []api.Span {
	return []api.Span{span(1, 0), span(5, 4), span(0, -1), span(most, -most), span(-most-1, 0), span(0, most+1), span(most+1, most+1), span(-most-1, -most-1), span(math.MinInt, math.MaxInt), span(math.MaxInt, math.MinInt), span(math.MinInt, math.MinInt), span(math.MaxInt, math.MaxInt)}
}
