package exchange_test

import (
	"math/rand"
	"testing"

	"sectime/api"
	"sectime/drift"
	"sectime/exchange"
	"sectime/interval"
)

// way is a delay that is not negative: none, or of any length that leaves room for the rest of an exchange.
func way(r *rand.Rand) int {
	return r.Intn(1<<56) >> r.Intn(58)
}

func instant(r *rand.Rand) int {
	return (2*r.Intn(2) - 1) * (r.Intn(half) >> r.Intn(59))
}

// If both clocks advance alike, the delay is what both ways have taken, and the offset lies in its span, whatever they have taken.
func TestOffsetsContain(t *testing.T) {
	r := rand.New(rand.NewSource(23))
	for range 20000 {
		t1, offset, out, hold, back := instant(r), instant(r)/2, way(r), way(r), way(r)
		t2 := t1 + out + offset
		s := sample(t1, t2, t2+hold, t1+out+hold+back, r.Intn(9))
		checkDelay(t, s, out+back, api.OK)
		if got, e := exchange.Offset(s); e != api.OK || !interval.Holds(got, offset) {
			t.Fatal(s, offset, got, e)
		}
		for _, share := range append(shares(), leastShare(out, back)) {
			if share < leastShare(out, back) {
				continue
			}
			if got, e := exchange.Bound(s, share); e != api.OK || !interval.Holds(got, offset) {
				t.Fatal(s, share, offset, got, e)
			}
		}
	}
}

// leastShare is the least share with which neither way takes too long.
func leastShare(out, back int) int {
	if out+back == 0 {
		return 500
	}
	return max(500, int(ceiling(times(number(max(out, back)), 1000), out+back).Int64()))
}

// longestWay is the longest way that is at most share thousandths of a delay.
func longestWay(delay, share int) int {
	return int(floor(times(number(delay), share), 1000).Int64())
}

// The longest way that a share permits, there or back, leads to an offset that its bound still contains.
func TestBoundsContainTheirEnds(t *testing.T) {
	r := rand.New(rand.NewSource(24))
	for _, share := range shares() {
		for range 2000 {
			delay, t1, offset, hold := way(r), instant(r), instant(r)/2, way(r)
			longest := longestWay(delay, share)
			for _, out := range []int{longest, delay - longest} {
				if max(out, delay-out) > longest {
					continue // of an odd delay no two ways of whole ticks are both within half
				}
				t2 := t1 + out + offset
				s := sample(t1, t2, t2+hold, t1+hold+delay, 0)
				if got, e := exchange.Bound(s, share); e != api.OK || !interval.Holds(got, offset) {
					t.Fatal(s, share, offset, got, e)
				}
			}
		}
	}
}

// local is what a clock with the drift bound ppb may show of a time: often as much or as little as it may at all.
func local(r *rand.Rand, time, ppb int) int {
	s, _ := drift.Advance(time, ppb)
	for _, d := range []int{s.Lo + r.Intn(3), s.Hi - r.Intn(3), s.Lo + r.Intn(s.Hi-s.Lo+1)}[r.Intn(3):] {
		if drift.Fits(time, d, ppb) {
			return d
		}
	}
	return time
}

// wrongBy is by how much a server's reading is wrong: often by as much as it may be.
func wrongBy(r *rand.Rand, err int) int {
	return []int{-err, err, r.Intn(2*err+1) - err}[r.Intn(3)]
}

// True time at T4 lies in the span, whatever the ways have taken, if the server and the client's clock keep to their bounds.
func TestInstantsContain(t *testing.T) {
	r := rand.New(rand.NewSource(25))
	for _, ppb := range bounds() {
		for range 5000 {
			now, out, hold, back, err := instant(r), way(r), way(r), way(r), way(r)
			t2 := now + out + wrongBy(r, err)
			// A clock that would run backwards stands instead, and is still wrong by no more than err.
			t3 := max(t2, now+out+hold+wrongBy(r, err))
			t1 := instant(r)
			s := sample(t1, t2, t3, t1+local(r, out+hold+back, ppb), err)
			if got, e := exchange.At(s, ppb); e != api.OK || !interval.Holds(got, now+out+hold+back) {
				t.Fatal(s, ppb, now+out+hold+back, got, e)
			}
		}
	}
}

// No smaller span would do: with no way back true time can be its first instant, and with no way there, and no drift, its last one.
func TestInstantsAreNotWider(t *testing.T) {
	r := rand.New(rand.NewSource(26))
	for range 5000 {
		now, long, err := instant(r), way(r), way(r)
		first, e := exchange.At(sample(0, now+err, now+err, long, err), 0)
		if e != api.OK || first.Lo != now {
			t.Fatal(now, long, err, first, e)
		}
		last, e := exchange.At(sample(0, now-err, now-err, long, err), 0)
		if e != api.OK || last.Hi != now+long {
			t.Fatal(now, long, err, last, e)
		}
	}
}
