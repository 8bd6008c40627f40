package ticks_test

import (
	"math"
	"math/big"
	"math/rand"
	"testing"

	"sectime/api"
	"sectime/ticks"
)

func TestKnownWires(t *testing.T) {
	for _, c := range []struct {
		t    int
		want uint64
	}{
		{0, 0},
		{1, 4096},
		{1572864, 1<<32 + 1<<31},
		{second - 1, 1<<32 - 4096},
		{second, 1 << 32},
		{3*second + 7, 3<<32 + 7*4096},
		{-1, 1<<64 - 4096},
		{-second, (1<<32 - 1) << 32},
		{1<<52 - 1, 1<<64 - 4096},
		{1 << 52, 0},
		{1<<52 + 1, 4096},
		{-1 << 52, 0},
		{-1<<52 - 1, 1<<64 - 4096},
		{most, 0},
		{most - 1, 1<<64 - 4096},
		{-most, 0},
		{-most + 1, 4096},
	} {
		if got, e := ticks.Wire(c.t); e != api.OK || got != c.want {
			t.Errorf("Wire of %d is %d and %v, want %d", c.t, got, e, c.want)
		}
	}
}

func TestWire(t *testing.T) {
	for _, n := range valids() {
		want := new(big.Int).Mod(standardSecond(n), power(32))
		want.Mul(want, power(32)).Add(want, new(big.Int).Mul(standardPart(n), power(12)))
		got, e := ticks.Wire(n)
		if e != api.OK || new(big.Int).SetUint64(got).Cmp(want) != 0 {
			t.Errorf("Wire of %d is %d and %v, want %v", n, got, e, want)
		}
		within := modulo(n, 52)
		if down, up := ticks.Down(got), ticks.Up(got); number(down).Cmp(within) != 0 || number(up).Cmp(within) != 0 {
			t.Errorf("Wire of %d leads back to %d and %d, want %v", n, down, up, within)
		}
	}
	for _, n := range invalids() {
		if got, e := ticks.Wire(n); e != api.ErrRange || got != 0 {
			t.Errorf("Wire of %d is %d and %v, want 0 and ErrRange", n, got, e)
		}
	}
}

func TestKnownTicksOfWires(t *testing.T) {
	for _, c := range []struct {
		w        uint64
		down, up int
	}{
		{0, 0, 0},
		{1, 0, 1},
		{4095, 0, 1},
		{4096, 1, 1},
		{4097, 1, 2},
		{1<<32 - 1, second - 1, second},
		{1 << 32, second, second},
		{1<<32 + 1, second, second + 1},
		{1<<63 - 1, 1<<51 - 1, 1 << 51},
		{1 << 63, 1 << 51, 1 << 51},
		{1<<63 + 1, 1 << 51, 1<<51 + 1},
		{1<<64 - 4097, 1<<52 - 2, 1<<52 - 1},
		{1<<64 - 4096, 1<<52 - 1, 1<<52 - 1},
		{1<<64 - 4095, 1<<52 - 1, 1 << 52},
		{1<<64 - 1, 1<<52 - 1, 1 << 52},
	} {
		if down, up := ticks.Down(c.w), ticks.Up(c.w); down != c.down || up != c.up {
			t.Errorf("the ticks of %d are %d and %d, want %d and %d", c.w, down, up, c.down, c.up)
		}
	}
}

func TestTicksOfWires(t *testing.T) {
	r := rand.New(rand.NewSource(12))
	check := func(w uint64) {
		t.Helper()
		exact := new(big.Int).SetUint64(w)
		down, up := rounded(exact, power(12), false), rounded(exact, power(12), true)
		if got, got2 := ticks.Down(w), ticks.Up(w); number(got).Cmp(down) != 0 || number(got2).Cmp(up) != 0 {
			t.Errorf("the ticks of %d are %d and %d, want %v and %v", w, got, got2, down, up)
		}
	}
	for bit := range 64 {
		for near := range uint64(5) {
			check(1<<bit - 2 + near)
		}
	}
	for range 2000 {
		w := r.Uint64() >> r.Intn(64)
		check(w)
		check(-w)
		check(w &^ 4095)
	}
}

func TestDelay(t *testing.T) {
	for _, c := range []struct {
		x    uint32
		want int
	}{{0, 0}, {1, 16}, {2, 32}, {65535, second - 16}, {65536, second}, {1 << 28, 1 << 32}, {1 << 31, 1 << 35}, {math.MaxUint32, 1<<36 - 16}} {
		if got := ticks.Delay(c.x); got != c.want {
			t.Errorf("Delay of %d is %d, want %d", c.x, got, c.want)
		}
	}
	r := rand.New(rand.NewSource(13))
	for range 1000 {
		x := r.Uint32() >> r.Intn(32)
		d := ticks.Delay(x)
		// x / 2^16 seconds are d / 2^20 seconds.
		if product(d, 1<<16).Cmp(product(int(x), second)) != 0 {
			t.Errorf("Delay of %d is %d", x, d)
		}
		checkUnits(t, d)
	}
}

// checkUnits checks both results of Units.
func checkUnits(t *testing.T, d int) {
	t.Helper()
	for _, up := range []bool{false, true} {
		want, wantError := rounded(product(d, 1<<16), number(second), up), api.OK
		if d < 0 || want.Cmp(number(math.MaxUint32)) > 0 {
			want, wantError = number(0), api.ErrRange
		}
		if got, e := ticks.Units(d, up); e != wantError || number(int(got)).Cmp(want) != 0 {
			t.Errorf("Units of %d, up %v, are %d and %v, want %v and %v", d, up, got, e, want, wantError)
		}
	}
}

func TestKnownUnits(t *testing.T) {
	const end = 16 * math.MaxUint32
	for _, c := range []struct {
		d        int
		down, up uint32
		e, e2    api.Errno
	}{
		{0, 0, 0, api.OK, api.OK},
		{1, 0, 1, api.OK, api.OK},
		{15, 0, 1, api.OK, api.OK},
		{16, 1, 1, api.OK, api.OK},
		{17, 1, 2, api.OK, api.OK},
		{second, 65536, 65536, api.OK, api.OK},
		{end - 16, math.MaxUint32 - 1, math.MaxUint32 - 1, api.OK, api.OK},
		{end - 15, math.MaxUint32 - 1, math.MaxUint32, api.OK, api.OK},
		{end - 1, math.MaxUint32 - 1, math.MaxUint32, api.OK, api.OK},
		{end, math.MaxUint32, math.MaxUint32, api.OK, api.OK},
		{end + 1, math.MaxUint32, 0, api.OK, api.ErrRange},
		{end + 15, math.MaxUint32, 0, api.OK, api.ErrRange},
		{end + 16, 0, 0, api.ErrRange, api.ErrRange},
		{end + 17, 0, 0, api.ErrRange, api.ErrRange},
		// Above, the last 32 bits of the number are small again.
		{2*(end+16) + 16, 0, 0, api.ErrRange, api.ErrRange},
		{most, 0, 0, api.ErrRange, api.ErrRange},
		{most + 16, 0, 0, api.ErrRange, api.ErrRange},
		{math.MaxInt, 0, 0, api.ErrRange, api.ErrRange},
		{-1, 0, 0, api.ErrRange, api.ErrRange},
		{-15, 0, 0, api.ErrRange, api.ErrRange},
		{-16, 0, 0, api.ErrRange, api.ErrRange},
		{-most, 0, 0, api.ErrRange, api.ErrRange},
		{math.MinInt, 0, 0, api.ErrRange, api.ErrRange},
	} {
		down, e := ticks.Units(c.d, false)
		up, e2 := ticks.Units(c.d, true)
		if down != c.down || up != c.up || e != c.e || e2 != c.e2 {
			t.Errorf("Units of %d are %d and %d, %v and %v, want %d and %d, %v and %v", c.d, down, up, e, e2, c.down, c.up, c.e, c.e2)
		}
	}
}

func TestUnits(t *testing.T) {
	for _, d := range anyTicks() {
		checkUnits(t, d)
	}
	for d := range 100 {
		checkUnits(t, d)
		checkUnits(t, 1<<36-50+d)
	}
}
