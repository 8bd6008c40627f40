package exchange_test

import (
	"math"
	"math/big"
	"math/rand"

	"sectime/api"
)

// The definitions of the chapter, in integers of any length, and the samples that are held against them.

const (
	most    = 1 << 60 // the greatest instant
	half    = 1 << 59 // the longest time between T1 and T4 that At takes
	bound   = 1000000 // the greatest drift bound
	billion = 1000000000
)

func span(lo, hi int) api.Span {
	return api.Span{Lo: lo, Hi: hi}
}

func sample(t1, t2, t3, t4, err int) api.Sample {
	return api.Sample{T1: t1, T2: t2, T3: t3, T4: t4, Err: err}
}

func sum(l ...*big.Int) *big.Int {
	total := new(big.Int)
	for _, n := range l {
		total.Add(total, n)
	}
	return total
}

func number(n int) *big.Int {
	return big.NewInt(int64(n))
}

func minus(n int) *big.Int {
	return new(big.Int).Neg(number(n))
}

func times(n *big.Int, by int) *big.Int {
	return new(big.Int).Mul(n, number(by))
}

// floor is n / by, rounded down: Div of big rounds so, for a divisor above 0.
func floor(n *big.Int, by int) *big.Int {
	return new(big.Int).Div(n, number(by))
}

func ceiling(n *big.Int, by int) *big.Int {
	down := floor(new(big.Int).Neg(n), by)
	return down.Neg(down)
}

func valid(n *big.Int) bool {
	return new(big.Int).Abs(n).Cmp(number(most)) <= 0
}

func standardCheck(s api.Sample) api.Errno {
	for _, t := range []int{s.T1, s.T2, s.T3, s.T4} {
		if !valid(number(t)) {
			return api.ErrRange
		}
	}
	if s.Err < 0 || s.Err > most {
		return api.ErrRange
	}
	if s.T4 < s.T1 || s.T3 < s.T2 {
		return api.ErrOrder
	}
	return api.OK
}

// longDelay is the delay of any readings.
func longDelay(s api.Sample) *big.Int {
	return sum(number(s.T4), minus(s.T1), minus(s.T3), number(s.T2))
}

func standardDelay(s api.Sample) (int, api.Errno) {
	if e := standardCheck(s); e != api.OK {
		return 0, e
	}
	d := longDelay(s)
	switch {
	case d.Sign() < 0:
		return 0, api.ErrSample
	case !valid(d):
		return 0, api.ErrRange
	}
	return int(d.Int64()), api.OK
}

// standardSpan is the span with these ends; their order is looked at last.
func standardSpan(lo, hi *big.Int, disorder api.Errno) (api.Span, api.Errno) {
	switch {
	case !valid(lo) || !valid(hi):
		return api.Span{}, api.ErrRange
	case lo.Cmp(hi) > 0:
		return api.Span{}, disorder
	}
	return span(int(lo.Int64()), int(hi.Int64())), api.OK
}

func standardOffset(s api.Sample) (api.Span, api.Errno) {
	if e := standardCheck(s); e != api.OK {
		return api.Span{}, e
	}
	if longDelay(s).Sign() < 0 {
		return api.Span{}, api.ErrSample
	}
	return standardSpan(sum(number(s.T3), minus(s.T4)), sum(number(s.T2), minus(s.T1)), api.ErrRange)
}

// standardBound rounds the ends, not the parts of the delay: as T2 - T1 is whole, a part rounded up is an end rounded down.
func standardBound(s api.Sample, share int) (api.Span, api.Errno) {
	if _, e := standardOffset(s); e != api.OK {
		return api.Span{}, e
	}
	delay, e := standardDelay(s)
	if e != api.OK {
		return api.Span{}, e
	}
	if share < 500 || share > 1000 {
		return api.Span{}, api.ErrRange
	}
	top := times(sum(number(s.T2), minus(s.T1)), 1000)
	lo := floor(sum(top, times(minus(delay), share)), 1000)
	hi := ceiling(sum(top, times(minus(delay), 1000-share)), 1000)
	return standardSpan(lo, hi, api.ErrRange)
}

func standardAt(s api.Sample, ppb int) (api.Span, api.Errno) {
	if e := standardCheck(s); e != api.OK {
		return api.Span{}, e
	}
	d := sum(number(s.T4), minus(s.T1))
	if d.Cmp(number(half)) > 0 || ppb < 0 || ppb > bound {
		return api.Span{}, api.ErrRange
	}
	longest := ceiling(times(d, billion), billion-ppb)
	return standardSpan(sum(number(s.T3), minus(s.Err)), sum(number(s.T2), number(s.Err), longest), api.ErrSample)
}

// readings are at and beside the bounds of an instant and halfway to them, and some small ones.
func readings() []int {
	return []int{-most - 1, -most, -most + 1, -half - 1, -half, -7, 0, 1, 8, half, half + 1, most - 1, most, most + 1}
}

// edges are the samples of all readings, with this error.
func edges(err int) []api.Sample {
	l := []api.Sample{}
	for _, t1 := range readings() {
		for _, t2 := range readings() {
			for _, t3 := range readings() {
				for _, t4 := range readings() {
					l = append(l, sample(t1, t2, t3, t4, err))
				}
			}
		}
	}
	return l
}

// small are the samples of all small readings: most errors and the sign of the delay are decided by a tick.
func small() []api.Sample {
	l := []api.Sample{}
	for n := range 6 * 6 * 6 * 6 {
		l = append(l, sample(n%6-2, n/6%6-2, n/36%6-2, n/216-2, n%4))
	}
	return l
}

// random are samples with valid readings of every length, most of them in order.
func random(seed int64, count int) []api.Sample {
	r := rand.New(rand.NewSource(seed))
	instant := func() int {
		return (2*r.Intn(2) - 1) * (r.Intn(most+1) >> r.Intn(60))
	}
	l := []api.Sample{}
	for range count {
		t1, t2 := instant(), instant()
		hold := r.Intn(most) >> r.Intn(60)
		t4 := t1 + hold + r.Intn(most)>>r.Intn(60) - r.Intn(3)
		l = append(l, sample(t1, t2, min(t2+hold, most), min(t4, most), r.Intn(most)>>r.Intn(60)))
	}
	return l
}

// far are numbers that no limit of a sample, a share or a drift bound permits.
func far() []int {
	return []int{math.MinInt, math.MinInt + 1, -2 * most, -most - 1, most + 1, 2 * most, 4*most - 1, math.MaxInt - 1, math.MaxInt}
}

// shares are permitted ones: the least, the greatest, those beside them, and some between them.
func shares() []int {
	return []int{500, 501, 502, 600, 667, 700, 750, 800, 876, 900, 990, 998, 999, 1000}
}

// wrong are shares that are not permitted.
func wrong() []int {
	return append(far(), -1000, -500, -1, 0, 1, 100, 250, 498, 499, 1001, 1002, 1500, 2000, billion)
}

func bounds() []int {
	return []int{0, 1, 2, 50, 999, 1000, 65536, 100000, 333333, 999999, bound}
}
