package interleave_test

import (
	"math"
	"math/rand"
	"testing"

	"sectime/api"
	"sectime/interleave"
)

func take(i api.Interleaver, h api.Header, at int) taken {
	next, r, e := interleave.Take(i, h, at)
	return taken{next, r, e}
}

func checkTake(t *testing.T, i api.Interleaver, h api.Header, at int, want taken) {
	t.Helper()
	if got := take(i, h, at); got != want {
		t.Fatalf("Take of %+v with %+v at %d is %+v, want %+v", i, h, at, got, want)
	}
}

func TestKnownAnswers(t *testing.T) {
	first := api.Interleaver{Open: true, Transmit: 8, Asked: 50}
	open := api.Interleaver{Open: true, Known: true, Transmit: 8, Asked: 50, Sent: 1, Got: 2, Receive: 30, Mark: 7}
	basic, inter := api.Header{Mode: 4, Origin: 8, Receive: 60, Transmit: 61}, api.Header{Mode: 4, Origin: 7, Receive: 60, Transmit: 31}
	next := api.Interleaver{Known: true, Sent: 50, Got: 55, Receive: 60, Mark: 8}
	for _, c := range []struct {
		i    api.Interleaver
		h    api.Header
		at   int
		want taken
	}{
		{first, basic, 55, taken{i: next, r: api.Reading{T1: 50, T2: 60, T3: 61, T4: 55}}},
		{open, basic, 55, taken{i: next, r: api.Reading{T1: 50, T2: 60, T3: 61, T4: 55}}},
		{open, inter, 55, taken{i: next, r: api.Reading{T1: 1, T2: 30, T3: 31, T4: 2, Interleaved: true}}},
		// An answer may come at once.
		{first, basic, 50, taken{i: api.Interleaver{Known: true, Sent: 50, Got: 50, Receive: 60, Mark: 8}, r: api.Reading{T1: 50, T2: 60, T3: 61, T4: 50}}},
		// An answer that belongs to both numbers tells of this exchange.
		{api.Interleaver{Open: true, Known: true, Transmit: 8, Mark: 8, Sent: 1, Got: 2, Receive: 30}, basic, 55, taken{i: api.Interleaver{Known: true, Got: 55, Receive: 60, Mark: 8}, r: api.Reading{T2: 60, T3: 61, T4: 55}}},
		// Of its other numbers only Receive and Transmit are looked at: any of them may be 0, or beyond what a header can say.
		{first, api.Header{Mode: 4, Origin: 8}, 55, taken{i: api.Interleaver{Known: true, Sent: 50, Got: 55, Mark: 8}, r: api.Reading{T1: 50, T4: 55}}},
		{first, api.Header{Leap: 9, Version: -1, Mode: 4, Stratum: 999, Poll: 999, Precision: -999, Origin: 8, Receive: 60, Transmit: 61}, 55, taken{i: next, r: api.Reading{T1: 50, T2: 60, T3: 61, T4: 55}}},
		// The number of an exchange that was not is none.
		{api.Interleaver{Open: true, Transmit: 8, Asked: 50, Mark: 7}, inter, 55, taken{e: api.ErrMatch}},
		{api.Interleaver{Open: true, Transmit: 8, Asked: 50}, api.Header{Mode: 4}, 55, taken{e: api.ErrMatch}},
		// Nor are the server's Receive, and the number of a question that was forgotten.
		{open, api.Header{Mode: 4, Origin: 30}, 55, taken{e: api.ErrMatch}},
		{open, api.Header{Mode: 4, Origin: 9}, 55, taken{e: api.ErrMatch}},
		{open, api.Header{Mode: 4}, 55, taken{e: api.ErrMatch}},
		// Each error, and those behind it.
		{open, api.Header{Mode: 3, Origin: 8}, 55, taken{e: api.ErrForm}},
		{open, api.Header{Mode: 3, Origin: 9}, 55, taken{e: api.ErrForm}},
		{open, basic, 49, taken{e: api.ErrOrder}},
		{open, inter, 2, taken{e: api.ErrOrder}},
		{open, api.Header{}, 49, taken{e: api.ErrOrder}},
		{open, basic, most + 1, taken{e: api.ErrRange}},
		{open, api.Header{}, -most - 1, taken{e: api.ErrRange}},
		{open, api.Header{}, math.MinInt, taken{e: api.ErrRange}},
		{api.Interleaver{}, api.Header{}, 0, taken{e: api.ErrState}},
		{api.Interleaver{}, api.Header{}, most + 1, taken{e: api.ErrState}},
		{api.Interleaver{Transmit: 8, Asked: 50}, basic, 55, taken{e: api.ErrState}},
		{next, basic, 55, taken{e: api.ErrState}},
		{next, basic, 49, taken{e: api.ErrState}},
	} {
		checkTake(t, c.i, c.h, c.at, c.want)
	}
}

// All combinations of numbers that are the same or not, in states of each kind.
func TestAnswers(t *testing.T) {
	r := rand.New(rand.NewSource(27))
	for n := range 4 {
		for _, transmit := range stamps() {
			for _, mark := range stamps() {
				for _, origin := range stamps() {
					for mode := range 8 {
						i, h := state(r), header(r, mode)
						i.Open, i.Known, i.Transmit, i.Mark, h.Origin = n%2 == 0, n/2 == 0, transmit, mark, origin
						checkTake(t, i, h, i.Asked, standardTake(i, h, i.Asked))
					}
				}
			}
		}
	}
}

func TestReadingsOfAnswers(t *testing.T) {
	r := rand.New(rand.NewSource(28))
	l := append(instants(), outside()...)
	for _, asked := range l {
		for _, at := range append(l, asked-1, asked, asked+1) {
			for n := range 16 {
				i, h := state(r), header(r, 3+n%2)
				i.Open, i.Known, i.Asked = n/2%2 == 0, n/4%2 == 0, asked
				h.Origin = []uint64{i.Transmit, i.Mark}[n/8]
				checkTake(t, i, h, at, standardTake(i, h, at))
			}
		}
	}
}

func TestModesOfAnswers(t *testing.T) {
	r := rand.New(rand.NewSource(29))
	for _, mode := range []int{math.MinInt, -4, -1, 0, 1, 2, 3, 5, 6, 7, 8, 12, 260, 4 + 1<<32, math.MaxInt} {
		for _, known := range []bool{false, true} {
			i, h := state(r), header(r, mode)
			i.Open, i.Known = true, known
			for _, h.Origin = range []uint64{i.Transmit, i.Mark, i.Receive} {
				checkTake(t, i, h, i.Asked, taken{e: api.ErrForm})
			}
		}
	}
}

// Each bit of an Origin counts.
func TestChangedOrigins(t *testing.T) {
	r := rand.New(rand.NewSource(30))
	for range 50 {
		i, h := state(r), header(r, 4)
		i.Open, i.Known = true, true
		for _, of := range []uint64{i.Transmit, i.Mark} {
			h.Origin = of
			if got := take(i, h, i.Asked); got.e != api.OK || got.r.Interleaved != (of == i.Mark) {
				t.Fatal(i, h, got)
			}
			for bit := range 64 {
				h.Origin = of ^ 1<<bit
				checkTake(t, i, h, i.Asked, taken{e: api.ErrMatch})
			}
		}
	}
}
