package interleave_test

import (
	"math"
	"math/rand"

	"sectime/api"
)

// The definitions of the chapter, and of the headers of layer 16 that it names, and the arguments that are held against them.

const most = 1 << 60 // the greatest instant

type asked struct {
	i api.Interleaver
	h api.Header
	e api.Errno
}

func standardAsk(i api.Interleaver, transmit uint64, at int) asked {
	if at < -most || at > most {
		return asked{e: api.ErrRange}
	}
	if transmit == 0 {
		return asked{e: api.ErrForm}
	}
	if i.Known && i.Mark == transmit {
		return asked{e: api.ErrForm}
	}
	h := api.Header{Version: 4, Mode: 3, Poll: 6, Transmit: transmit}
	if i.Known {
		h.Origin = i.Receive
		h.Receive = i.Mark
	}
	return asked{i: api.Interleaver{Open: true, Known: i.Known, Transmit: transmit, Asked: at, Sent: i.Sent, Got: i.Got, Receive: i.Receive, Mark: i.Mark}, h: h}
}

type taken struct {
	i api.Interleaver
	r api.Reading
	e api.Errno
}

func standardTake(i api.Interleaver, h api.Header, at int) taken {
	if !i.Open {
		return taken{e: api.ErrState}
	}
	if at < -most || at > most {
		return taken{e: api.ErrRange}
	}
	if at < i.Asked {
		return taken{e: api.ErrOrder}
	}
	if h.Mode != 4 {
		return taken{e: api.ErrForm}
	}
	next := api.Interleaver{Known: true, Sent: i.Asked, Got: at, Receive: h.Receive, Mark: i.Transmit}
	if h.Origin == i.Transmit {
		return taken{i: next, r: api.Reading{T1: i.Asked, T2: h.Receive, T3: h.Transmit, T4: at}}
	}
	if i.Known && h.Origin == i.Mark {
		return taken{i: next, r: api.Reading{T1: i.Sent, T2: i.Receive, T3: h.Transmit, T4: i.Got, Interleaved: true}}
	}
	return taken{e: api.ErrMatch}
}

type served struct {
	n     []api.Echo
	h     api.Header
	inter bool
	e     api.Errno
}

func standardServe(m []api.Echo, q api.Header, stratum int, receive, transmit uint64) served {
	if e := standardQuestion(q); e != api.OK {
		return served{e: e}
	}
	if stratum < 0 || stratum > 255 {
		return served{e: api.ErrRange}
	}
	if len(m) > 8 {
		return served{e: api.ErrLimit}
	}
	s := served{n: []api.Echo{{Receive: receive, Transmit: transmit}}}
	s.h = api.Header{Version: q.Version, Mode: 4, Stratum: stratum, Poll: q.Poll, Precision: -20, Origin: q.Transmit, Receive: receive, Transmit: transmit}
	for _, a := range m {
		if a.Receive == receive {
			return served{e: api.ErrTwice}
		}
		if q.Origin != 0 && a.Receive == q.Origin && !s.inter {
			s.h.Transmit, s.h.Origin, s.inter = a.Transmit, q.Receive, true
		}
		if len(s.n) < 8 {
			s.n = append(s.n, a)
		}
	}
	return s
}

// standardQuestion is the first error of a header that Reply of layer 16 is given.
func standardQuestion(q api.Header) api.Errno {
	if q.Leap < 0 || q.Leap > 3 || q.Version != 3 && q.Version != 4 || q.Mode < 0 || q.Mode > 7 || q.Stratum < 0 || q.Stratum > 255 || q.Poll < -128 || q.Poll > 127 || q.Precision < -128 || q.Precision > 127 {
		return api.ErrRange
	}
	if q.Mode != 3 {
		return api.ErrForm
	}
	return api.OK
}

// instants are valid readings, at their bounds and between them.
func instants() []int {
	return []int{-most, 1 - most, -5, 0, 1, 99, most - 1, most}
}

// outside are numbers that are no valid readings.
func outside() []int {
	return []int{-most - 1, most + 1, -2 * most, 2 * most, 4*most - 1, math.MinInt, math.MinInt + 1, math.MaxInt}
}

// stamps are random numbers of a client and timestamps of a server, some of them beside each other or with the same bits in one half.
func stamps() []uint64 {
	return []uint64{0, 1, 2, 7, 1 << 32, 1<<32 + 7, 1 << 63, 1<<63 + 7, math.MaxInt64, math.MaxUint64 - 1, math.MaxUint64}
}

func oneOf[T any](r *rand.Rand, l []T) T {
	return l[r.Intn(len(l))]
}

func reading(r *rand.Rand) int {
	return (2*r.Intn(2) - 1) * (r.Intn(most+1) >> r.Intn(60))
}

// state is any state, most of them such as are not reached by Ask and Take.
func state(r *rand.Rand) api.Interleaver {
	return api.Interleaver{Open: r.Intn(2) == 0, Known: r.Intn(2) == 0, Transmit: r.Uint64(), Asked: reading(r), Sent: reading(r), Got: reading(r), Receive: r.Uint64(), Mark: r.Uint64()}
}

// header is any header of a known version.
func header(r *rand.Rand, mode int) api.Header {
	return api.Header{
		Leap: r.Intn(4), Version: 3 + r.Intn(2), Mode: mode, Stratum: r.Intn(256), Poll: r.Intn(256) - 128, Precision: r.Intn(256) - 128,
		RootDelay: r.Uint32(), RootDisp: r.Uint32(), RefID: r.Uint32(),
		Ref: r.Uint64(), Origin: r.Uint64(), Receive: r.Uint64(), Transmit: r.Uint64(),
	}
}

// memory is what a server remembers, with so many answers of different Receives.
func memory(count int) []api.Echo {
	var m []api.Echo
	for k := range uint64(count) {
		m = append(m, api.Echo{Receive: 1000 - 10*k, Transmit: 5000 + 7*k})
	}
	return m
}
