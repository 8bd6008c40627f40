package ticks_test

import (
	"math"
	"math/big"
	"math/rand"
	"regexp"
)

// The definitions of the chapter, with integers of any length.

const (
	second = 1 << 20
	most   = 1 << 60 // the greatest instant
)

// rounded is the quotient of a and a b above 0.
func rounded(a, b *big.Int, up bool) *big.Int {
	if up {
		return new(big.Int).Neg(rounded(new(big.Int).Neg(a), b, false))
	}
	// Div rounds down for a divisor above 0.
	return new(big.Int).Div(a, b)
}

func number(n int) *big.Int {
	return big.NewInt(int64(n))
}

func product(a, b int) *big.Int {
	return new(big.Int).Mul(number(a), number(b))
}

// power is 2 to the n.
func power(n uint) *big.Int {
	return new(big.Int).Lsh(big.NewInt(1), n)
}

// modulo is what remains of t within 2 to the n, from 0 on.
func modulo(t int, n uint) *big.Int {
	return new(big.Int).Mod(number(t), power(n))
}

func standardSecond(t int) *big.Int {
	return rounded(number(t), number(second), false)
}

func standardPart(t int) *big.Int {
	return new(big.Int).Sub(number(t), new(big.Int).Mul(standardSecond(t), number(second)))
}

func standardFormat(t int) string {
	part := "000000" + standardPart(t).String()
	return standardSecond(t).String() + "." + part[len(part)-7:]
}

var form = regexp.MustCompile(`^(0|-?[1-9][0-9]*)\.([0-9]{7})$`)

// standardParse reads a text by its form and its two numbers, and writes none.
func standardParse(s string) (int, bool) {
	l := form.FindStringSubmatch(s)
	if l == nil {
		return 0, false
	}
	seconds, _ := new(big.Int).SetString(l[1], 10)
	part, _ := new(big.Int).SetString(l[2], 10)
	if part.Cmp(number(second)) >= 0 {
		return 0, false
	}
	t := seconds.Mul(seconds, number(second))
	t.Add(t, part)
	if t.CmpAbs(number(most)) > 0 {
		return 0, false
	}
	return int(t.Int64()), true
}

// valids are instants: those at the ends, beside every power of 2 and beside whole seconds, and others of every size.
func valids() []int {
	var l []int
	for _, t := range anyTicks() {
		if t >= -most && t <= most {
			l = append(l, t)
		}
	}
	return l
}

// invalids are beyond the ends.
func invalids() []int {
	l := []int{most + 1, most + 2, most + second, -most - 1, -most - 2, -most - second, 1 << 61, 1<<62 - 1, 1 << 62, -1 << 61, -1 << 62, math.MaxInt, math.MaxInt - 1, math.MinInt, math.MinInt + 1}
	r := rand.New(rand.NewSource(11))
	for range 100 {
		t := most + 1 + r.Intn(math.MaxInt-most)
		l = append(l, t, -t)
	}
	return l
}

// anyTicks are numbers of every size, valid or not.
func anyTicks() []int {
	l := []int{math.MinInt, math.MinInt + 1, math.MaxInt, math.MaxInt - 1, 1572864}
	for bit := range 63 {
		for near := -3; near <= 3; near++ {
			l = append(l, 1<<bit+near, -(1<<bit)+near)
		}
	}
	for _, seconds := range []int{1, 2, 9, 10, 11, 99, 100, 86400, 1<<32 - 1, 1 << 32, 1<<32 + 1, 1<<40 - 1} {
		for near := -2; near <= 2; near++ {
			l = append(l, seconds*second+near, -seconds*second+near)
		}
	}
	r := rand.New(rand.NewSource(10))
	for range 2000 {
		t := r.Intn(math.MaxInt) >> r.Intn(63)
		l = append(l, t, -t)
	}
	return l
}
