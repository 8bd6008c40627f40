package ticks_test

import (
	"testing"

	"sectime/ticks"
)

func TestKnownParts(t *testing.T) {
	for _, c := range []struct{ t, second, part int }{
		{0, 0, 0},
		{1, 0, 1},
		{second - 1, 0, second - 1},
		{second, 1, 0},
		{second + 1, 1, 1},
		{-1, -1, second - 1},
		{-second + 1, -1, 1},
		{-second, -1, 0},
		{-second - 1, -2, second - 1},
		{most, 1 << 40, 0},
		{most + 1, 1 << 40, 1},
		{-most, -1 << 40, 0},
		{-most - 1, -1<<40 - 1, second - 1},
		{1<<63 - 1, 1<<43 - 1, second - 1},
		{-1 << 63, -1 << 43, 0},
	} {
		if s, p := ticks.Second(c.t), ticks.Part(c.t); s != c.second || p != c.part {
			t.Errorf("Second and Part of %d are %d and %d, want %d and %d", c.t, s, p, c.second, c.part)
		}
	}
}

func TestParts(t *testing.T) {
	for _, n := range anyTicks() {
		s, p := ticks.Second(n), ticks.Part(n)
		if number(s).Cmp(standardSecond(n)) != 0 || number(p).Cmp(standardPart(n)) != 0 {
			t.Errorf("Second and Part of %d are %d and %d, want %v and %v", n, s, p, standardSecond(n), standardPart(n))
		}
		if p < 0 || p >= second || s*second+p != n {
			t.Errorf("Second %d and Part %d do not make %d", s, p, n)
		}
	}
}

func TestValid(t *testing.T) {
	for _, n := range []int{0, 1, -1, second, most - 1, most, -most + 1, -most} {
		if !ticks.Valid(n) {
			t.Errorf("%d is not valid", n)
		}
	}
	for _, n := range invalids() {
		if ticks.Valid(n) {
			t.Errorf("%d is valid", n)
		}
	}
	for _, n := range anyTicks() {
		if want := number(n).CmpAbs(power(60)) <= 0; ticks.Valid(n) != want {
			t.Errorf("Valid of %d is %v, want %v", n, !want, want)
		}
	}
}
