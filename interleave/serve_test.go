package interleave_test

import (
	"math"
	"math/rand"
	"slices"
	"testing"

	"sectime/api"
	"sectime/interleave"
	"sectime/packet"
)

// checkServe also checks that what is remembered shares no memory with m, and that m is not changed, nor what is behind it.
func checkServe(t *testing.T, m []api.Echo, q api.Header, stratum int, receive, transmit uint64, want served) {
	t.Helper()
	mark := api.Echo{Receive: 0xfade, Transmit: 0xcafe}
	room := append(slices.Clone(m), mark, mark)
	before := slices.Clone(room)
	n, h, inter, e := interleave.Serve(room[:len(m)], q, stratum, receive, transmit)
	if !slices.Equal(n, want.n) || h != want.h || inter != want.inter || e != want.e {
		t.Fatalf("Serve of %v to %+v with %d, %d and %d is %v, %+v, %v and %v, want %+v", m, q, stratum, receive, transmit, n, h, inter, e, want)
	}
	for k := range n[:cap(n)] {
		n[:cap(n)][k] = api.Echo{Receive: ^uint64(0), Transmit: 3}
	}
	if !slices.Equal(room, before) {
		t.Fatalf("Serve changes %v to %v, or shares its memory", before, room)
	}
}

func TestKnownServed(t *testing.T) {
	q := api.Header{Version: 4, Mode: 3, Poll: 6, Origin: 30, Receive: 7, Transmit: 8}
	first, other := q, q
	first.Origin, other.Origin = 0, 31
	m := []api.Echo{{Receive: 40, Transmit: 41}, {Receive: 30, Transmit: 32}}
	n := []api.Echo{{Receive: 60, Transmit: 61}, {Receive: 40, Transmit: 41}, {Receive: 30, Transmit: 32}}
	basic := api.Header{Version: 4, Mode: 4, Stratum: 2, Poll: 6, Precision: -20, Origin: 8, Receive: 60, Transmit: 61}
	inter := api.Header{Version: 4, Mode: 4, Stratum: 2, Poll: 6, Precision: -20, Origin: 7, Receive: 60, Transmit: 32}
	none := api.Echo{Transmit: 9}
	for _, c := range []struct {
		m    []api.Echo
		q    api.Header
		want served
	}{
		{nil, first, served{n: n[:1], h: basic}},
		{nil, q, served{n: n[:1], h: basic}},
		{m, q, served{n: n, h: inter, inter: true}},
		{m, first, served{n: n, h: basic}},
		{m, other, served{n: n, h: basic}},
		// An Origin of 0 names no answer, not even one with this Receive.
		{[]api.Echo{none}, first, served{n: []api.Echo{n[0], none}, h: basic}},
		// Only Receive is looked at: a Transmit is not what a client names.
		{[]api.Echo{{Receive: 29, Transmit: 30}}, q, served{n: []api.Echo{n[0], {Receive: 29, Transmit: 30}}, h: basic}},
		// The newest of several.
		{[]api.Echo{{Receive: 30, Transmit: 32}, {Receive: 30, Transmit: 33}}, q, served{n: []api.Echo{n[0], {Receive: 30, Transmit: 32}, {Receive: 30, Transmit: 33}}, h: inter, inter: true}},
	} {
		checkServe(t, c.m, c.q, 2, 60, 61, c.want)
	}
}

// Every length of a memory, and every place in it, with the limit: the last of MaxMemory answers is still told before it is forgotten.
func TestPlaces(t *testing.T) {
	for count := range 8 + 1 {
		m := memory(count)
		for k, a := range m {
			q := api.Header{Version: 3, Mode: 3, Poll: 5, Origin: a.Receive, Receive: 88, Transmit: 77}
			want := served{n: append([]api.Echo{{Receive: 2000, Transmit: 2001}}, m[:min(count, 7)]...), inter: true}
			want.h = api.Header{Version: 3, Mode: 4, Stratum: 1, Poll: 5, Precision: -20, Origin: 88, Receive: 2000, Transmit: a.Transmit}
			checkServe(t, m, q, 1, 2000, 2001, want)
			checkServe(t, m, q, 1, a.Receive, 2001, served{e: api.ErrTwice})
			q.Origin += 1 + uint64(k)
			want.inter, want.h.Origin, want.h.Transmit = false, 77, 2001
			checkServe(t, m, q, 1, 2000, 2001, want)
		}
	}
}

func TestOrderOfErrors(t *testing.T) {
	full, long := memory(8), memory(9)
	q := packet.Ask(5)
	q.Origin = full[3].Receive
	old, answer := q, q
	old.Version, old.Mode, answer.Mode = 2, 4, 4
	for _, c := range []struct {
		m       []api.Echo
		q       api.Header
		stratum int
		receive uint64
		want    api.Errno
	}{
		{full, old, 1, 1, api.ErrRange},
		{long, old, 256, 1000, api.ErrRange},
		{full, answer, 1, 1, api.ErrForm},
		{long, answer, 256, 1000, api.ErrForm},
		{full, q, 256, 1, api.ErrRange},
		{full, q, -1, 1, api.ErrRange},
		{long, q, 256, 1000, api.ErrRange},
		{long, q, 1, 1, api.ErrLimit},
		{long, q, 1, 1000, api.ErrLimit},
		{memory(4096), q, 1, 1000, api.ErrLimit},
		{full, q, 1, 1000, api.ErrTwice},
		{full, q, 1, q.Origin, api.ErrTwice},
		{memory(1), packet.Ask(5), 1, 1000, api.ErrTwice},
		{[]api.Echo{{Receive: 0}}, q, 1, 0, api.ErrTwice},
	} {
		checkServe(t, c.m, c.q, c.stratum, c.receive, 6, served{e: c.want})
	}
}

// A Transmit that is remembered already is no error, nor is one of 0.
func TestSameTransmits(t *testing.T) {
	m := []api.Echo{{Receive: 5, Transmit: 6}, {Receive: 4, Transmit: 6}, {Receive: 6, Transmit: 0}}
	for _, transmit := range []uint64{0, 4, 5, 6, 7} {
		q := packet.Ask(9)
		checkServe(t, m, q, 0, 7, transmit, standardServe(m, q, 0, 7, transmit))
		checkServe(t, m, q, 0, 0, transmit, standardServe(m, q, 0, 0, transmit))
	}
}

// All combinations of numbers that are the same or not, with memories in which some stand twice.
func TestServed(t *testing.T) {
	r := rand.New(rand.NewSource(31))
	for count := range 11 {
		for _, origin := range stamps() {
			for _, receive := range stamps() {
				for range 20 {
					m := make([]api.Echo, count)
					for k := range m {
						m[k] = api.Echo{Receive: oneOf(r, append(stamps(), r.Uint64(), r.Uint64())), Transmit: oneOf(r, append(stamps(), r.Uint64()))}
					}
					q, stratum, transmit := header(r, 3), r.Intn(256), oneOf(r, stamps())
					q.Origin = origin
					checkServe(t, m, q, stratum, receive, transmit, standardServe(m, q, stratum, receive, transmit))
				}
			}
		}
	}
}

func TestQuestionsServed(t *testing.T) {
	r := rand.New(rand.NewSource(32))
	for range 20000 {
		m, q, stratum := memory(r.Intn(10)), header(r, oneOf(r, []int{3, 3, 3, r.Intn(8), 8, -1})), r.Intn(256)
		if r.Intn(4) == 0 {
			*oneOf(r, []*int{&q.Leap, &q.Version, &q.Mode, &q.Stratum, &q.Poll, &q.Precision, &stratum}) = oneOf(r, []int{-129, -1, 3, 256, 512 + 3, math.MinInt, math.MaxInt})
		}
		if len(m) > 0 {
			q.Origin = oneOf(r, []uint64{q.Origin, oneOf(r, m).Receive})
		}
		receive, transmit := oneOf(r, []uint64{1000, 980, 995, r.Uint64()}), r.Uint64()
		checkServe(t, m, q, stratum, receive, transmit, standardServe(m, q, stratum, receive, transmit))
	}
}

// Each bit of an Origin counts, and of a Receive.
func TestChangedNumbers(t *testing.T) {
	q := packet.Ask(5)
	for bit := range 64 {
		m := []api.Echo{{Receive: 1 << 40, Transmit: 3}}
		q.Origin = 1<<40 ^ 1<<bit
		checkServe(t, m, q, 1, q.Origin, 2, standardServe(m, q, 1, q.Origin, 2))
		if _, _, inter, e := interleave.Serve(m, q, 1, q.Origin, 2); inter || e != api.OK {
			t.Fatal(bit, inter, e)
		}
	}
}

func TestNilAndEmptyMemories(t *testing.T) {
	q := packet.Ask(5)
	q.Origin = 1
	for _, m := range [][]api.Echo{nil, {}, make([]api.Echo, 0, 9)} {
		n, h, inter, e := interleave.Serve(m, q, 1, 2, 3)
		if !slices.Equal(n, []api.Echo{{Receive: 2, Transmit: 3}}) || h.Origin != 5 || h.Transmit != 3 || inter || e != api.OK {
			t.Fatal(n, h, inter, e)
		}
	}
}
