package era_test

import (
	"iter"
	"math"
	"math/big"
	"math/rand"

	"sectime/api"
)

// The definitions of the chapter, by looking at every era, and the numbers that are held against them.

const (
	most   = 1 << 60 // the greatest instant
	size   = 1 << 52 // ticks of an era
	fine   = 1 << 12 // units of a wire timestamp in a tick
	second = 1 << 20
	far    = 1 << 59 // the farthest instant that Near takes
)

func span(lo, hi int) api.Span {
	return api.Span{Lo: lo, Hi: hi}
}

func standardValid(s api.Span) bool {
	return s.Lo >= -most && s.Lo <= s.Hi && s.Hi <= most
}

// standardWire is the wire timestamp of t, by its ticks from the beginning of its era.
func standardWire(t int) uint64 {
	return uint64((t%size+size)%size) * fine
}

// standardEra is the span of w in the era k.
func standardEra(k int, w uint64) api.Span {
	s := span(k*size+int(w/fine), k*size+int(w/fine))
	if w%fine > 0 {
		s.Hi++
	}
	return s
}

// standardEras is the spans of w in all eras that have a valid instant, and in some more.
func standardEras(w uint64) iter.Seq[api.Span] {
	return func(yield func(api.Span) bool) {
		for k := -260; k <= 260; k++ {
			if !yield(standardEra(k, w)) {
				return
			}
		}
	}
}

func standardUnfold(within api.Span, w uint64) ([]api.Span, api.Errno) {
	if !standardValid(within) {
		return nil, api.ErrForm
	}
	var l []api.Span
	for s := range standardEras(w) {
		if max(s.Lo, within.Lo) <= min(s.Hi, within.Hi) {
			l = append(l, s)
		}
	}
	if len(l) > api.MaxSpans {
		return nil, api.ErrLimit
	}
	return l, api.OK
}

func standardOnly(within api.Span, w uint64) (api.Span, api.Errno) {
	l, e := standardUnfold(within, w)
	switch {
	case e == api.ErrForm:
		return api.Span{}, e
	case e == api.OK && len(l) == 0:
		return api.Span{}, api.ErrNone
	case e == api.OK && len(l) == 1:
		return l[0], api.OK
	}
	return api.Span{}, api.ErrTime
}

// distance is the ticks from t to the nearest instant of s.
func distance(t int, s api.Span) int {
	return max(0, s.Lo-t, t-s.Hi)
}

func standardNear(t int, w uint64) (api.Span, api.Errno) {
	if t < -far || t > far {
		return api.Span{}, api.ErrRange
	}
	var nearest api.Span
	least := math.MaxInt
	for s := range standardEras(w) {
		if d := distance(t, s); standardValid(s) && d < least {
			nearest, least = s, d
		}
	}
	return nearest, api.OK
}

// standardAhead is the difference in integers of any length, cut to 64 bits with a sign.
func standardAhead(a, b uint64) int {
	d := new(big.Int).Sub(new(big.Int).SetUint64(a), new(big.Int).SetUint64(b))
	half, whole := new(big.Int).Lsh(big.NewInt(1), 63), new(big.Int).Lsh(big.NewInt(1), 64)
	d.Add(d, half).Mod(d, whole).Sub(d, half)
	return int(d.Int64())
}

// wires are timestamps at ticks, beside them and between them, at both ends of the era and in the middle of it, and some more.
func wires() []uint64 {
	l := []uint64{0, 1, fine - 1, fine, fine + 1, 5*fine + 1, 1 << 32, 1<<32 + 1, -fine & math.MaxUint64, math.MaxUint64 - fine, math.MaxUint64 - fine + 2, math.MaxUint64 - 1, math.MaxUint64}
	for _, w := range []uint64{1 << 62, 1 << 63, 3 << 62} {
		l = append(l, w-fine, w-1, w, w+1, w+fine)
	}
	r := rand.New(rand.NewSource(14))
	for range 12 {
		w := r.Uint64() >> r.Intn(64)
		l = append(l, w, w&^(fine-1))
	}
	return l
}

// around are instants near the span of w in some eras, and halfway between two of them, among them those at the bounds.
func around(w uint64) []int {
	l := []int{-most, -most + 1, -far - 1, -far, -far + 1, -1, 0, 1, far - 1, far, far + 1, most - 1, most}
	for _, k := range []int{-257, -256, -255, -129, -128, -65, -64, -63, -2, -1, 0, 1, 2, 63, 64, 65, 127, 128, 254, 255, 256} {
		s := standardEra(k, w)
		for d := -2; d <= 3; d++ {
			l = append(l, s.Lo+d, s.Lo+size/2+d)
		}
	}
	var instants []int
	for _, t := range l {
		if standardValid(span(t, t)) {
			instants = append(instants, t)
		}
	}
	return instants
}

// beyond are numbers that are not from -bound to bound.
func beyond(bound int) []int {
	l := []int{math.MinInt, math.MinInt + 1, math.MaxInt - 1, math.MaxInt}
	for _, n := range []int{bound + 1, bound + 2, bound + size/2, bound + size, 2 * bound, 4*bound - 1} {
		l = append(l, n, -n)
	}
	return l
}
