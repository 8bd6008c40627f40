package era_test

import (
	"math"
	"math/rand"
	"testing"

	"sectime/era"
)

func checkAhead(t *testing.T, a, b uint64, want int) {
	t.Helper()
	if got := era.Ahead(a, b); got != want {
		t.Errorf("Ahead of %d and %d is %d, want %d", a, b, got, want)
	}
}

func TestKnownAhead(t *testing.T) {
	for _, c := range []struct {
		a, b uint64
		want int
	}{
		{0, 0, 0}, {7, 7, 0}, {math.MaxUint64, math.MaxUint64, 0},
		{5, 3, 2}, {3, 5, -2},
		{1 << 32, 0, 1 << 32}, {0, 1 << 32, -1 << 32},
		// Over the end of an era.
		{0, math.MaxUint64, 1}, {math.MaxUint64, 0, -1},
		{5, math.MaxUint64 - 4, 10}, {math.MaxUint64 - 4, 5, -10},
		// Half an era is behind, whichever comes first.
		{1<<63 - 1, 0, math.MaxInt}, {1 << 63, 0, math.MinInt}, {1<<63 + 1, 0, math.MinInt + 1},
		{0, 1<<63 - 1, -math.MaxInt}, {0, 1 << 63, math.MinInt}, {0, 1<<63 + 1, math.MaxInt},
		{1<<63 + 9, 9, math.MinInt}, {9, 1<<63 + 9, math.MinInt},
		{1<<63 - 1, math.MaxUint64, math.MinInt}, {math.MaxUint64, 1 << 63, math.MaxInt},
	} {
		checkAhead(t, c.a, c.b, c.want)
	}
}

func TestAhead(t *testing.T) {
	r := rand.New(rand.NewSource(18))
	for _, a := range wires() {
		for _, b := range wires() {
			checkAhead(t, a, b, standardAhead(a, b))
		}
		for range 50 {
			b := r.Uint64() >> r.Intn(64)
			checkAhead(t, a, b, standardAhead(a, b))
			checkAhead(t, a, a-b, int(b))
		}
	}
}

// Instants less than half an era apart are as far apart as their timestamps, in any era.
func TestAheadOfInstants(t *testing.T) {
	r := rand.New(rand.NewSource(19))
	for range 2000 {
		now := r.Intn(2*far+1) - far
		for _, d := range []int{0, 1, r.Intn(size / 2), size/2 - 1} {
			checkAhead(t, standardWire(now+d), standardWire(now), d*fine)
			checkAhead(t, standardWire(now), standardWire(now+d), -d*fine)
		}
	}
}
