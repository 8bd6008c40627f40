package packet_test

import (
	"encoding/binary"
	"math"
	"math/rand"

	"sectime/api"
)

// The definitions of the chapter, with the library's numbers in bytes, and the headers that are held against them.

// number is a number of a header that has a range.
type number struct {
	name            string
	least, greatest int
	of              func(h *api.Header) *int
}

func numbers() []number {
	return []number{
		{"Leap", 0, 3, func(h *api.Header) *int { return &h.Leap }},
		{"Version", 3, 4, func(h *api.Header) *int { return &h.Version }},
		{"Mode", 0, 7, func(h *api.Header) *int { return &h.Mode }},
		{"Stratum", 0, 255, func(h *api.Header) *int { return &h.Stratum }},
		{"Poll", -128, 127, func(h *api.Header) *int { return &h.Poll }},
		{"Precision", -128, 127, func(h *api.Header) *int { return &h.Precision }},
	}
}

func standardValid(h api.Header) api.Errno {
	for _, n := range numbers() {
		if value := *n.of(&h); value < n.least || value > n.greatest {
			return api.ErrRange
		}
	}
	return api.OK
}

// standardBytes are the bytes of a valid header.
func standardBytes(h api.Header) []byte {
	b := []byte{byte(64*h.Leap + 8*h.Version + h.Mode), byte(h.Stratum), byte(int8(h.Poll)), byte(int8(h.Precision))}
	for _, n := range []uint32{h.RootDelay, h.RootDisp, h.RefID} {
		b = binary.BigEndian.AppendUint32(b, n)
	}
	for _, n := range []uint64{h.Ref, h.Origin, h.Receive, h.Transmit} {
		b = binary.BigEndian.AppendUint64(b, n)
	}
	return b
}

// standardHeader is the header in 48 bytes, and whether its version is known.
func standardHeader(b []byte) (api.Header, bool) {
	signed := func(x byte) int {
		if x >= 128 {
			return int(x) - 256
		}
		return int(x)
	}
	h := api.Header{
		Leap: int(b[0]) / 64, Version: int(b[0]) / 8 % 8, Mode: int(b[0]) % 8,
		Stratum: int(b[1]), Poll: signed(b[2]), Precision: signed(b[3]),
		RootDelay: binary.BigEndian.Uint32(b[4:]), RootDisp: binary.BigEndian.Uint32(b[8:]), RefID: binary.BigEndian.Uint32(b[12:]),
		Ref: binary.BigEndian.Uint64(b[16:]), Origin: binary.BigEndian.Uint64(b[24:]), Receive: binary.BigEndian.Uint64(b[32:]), Transmit: binary.BigEndian.Uint64(b[40:]),
	}
	return h, h.Version == 3 || h.Version == 4
}

// standardReply is the answer, and the errors in their order.
func standardReply(q api.Header, stratum int, receive, transmit uint64) (api.Header, api.Errno) {
	switch {
	case standardValid(q) != api.OK:
		return api.Header{}, api.ErrRange
	case q.Mode != 3:
		return api.Header{}, api.ErrForm
	case stratum < 0 || stratum > 255:
		return api.Header{}, api.ErrRange
	}
	var a api.Header
	a.Version, a.Mode, a.Stratum, a.Poll, a.Precision = q.Version, 4, stratum, q.Poll, -20
	a.Origin, a.Receive, a.Transmit = q.Transmit, receive, transmit
	return a, api.OK
}

// sample has different numbers in all fields.
func sample() api.Header {
	return api.Header{Leap: 1, Version: 3, Mode: 6, Stratum: 130, Poll: -2, Precision: 17, RootDelay: 0x81020304, RootDisp: 0x05060708, RefID: 0xf90a0b0c, Ref: 0x8112131415161718, Origin: 0x2122232425262728, Receive: 0xf132333435363738, Transmit: 0x4142434445464748}
}

// headers are valid: with every field at its bounds, and random ones.
func headers() []api.Header {
	l := []api.Header{{Version: 3}, {Version: 4}, sample()}
	for _, n := range numbers() {
		for _, value := range []int{n.least, n.least + 1, n.greatest - 1, n.greatest} {
			for _, h := range []api.Header{{Version: 4}, sample()} {
				*n.of(&h) = value
				l = append(l, h)
			}
		}
	}
	wide := uint32(math.MaxUint32)
	long := uint64(math.MaxUint64)
	l = append(l, api.Header{Leap: 3, Version: 4, Mode: 7, Stratum: 255, Poll: -1, Precision: -1, RootDelay: wide, RootDisp: wide, RefID: wide, Ref: long, Origin: long, Receive: long, Transmit: long})
	r := rand.New(rand.NewSource(16))
	for range 300 {
		l = append(l, randomHeader(r))
	}
	return l
}

func randomHeader(r *rand.Rand) api.Header {
	h := api.Header{RootDelay: r.Uint32(), RootDisp: r.Uint32(), RefID: r.Uint32(), Ref: r.Uint64(), Origin: r.Uint64(), Receive: r.Uint64(), Transmit: r.Uint64()}
	for _, n := range numbers() {
		*n.of(&h) = n.least + r.Intn(n.greatest-n.least+1)
	}
	return h
}

// invalid are headers of which one number, or several, are out of their range.
func invalid() []api.Header {
	var l []api.Header
	for _, n := range numbers() {
		for _, value := range outside(n.least, n.greatest) {
			h := sample()
			*n.of(&h) = value
			l = append(l, h)
			for _, m := range numbers() {
				other := h
				*m.of(&other) = m.greatest + 1
				l = append(l, other)
			}
		}
	}
	return append(l, api.Header{}, api.Header{Leap: -1, Version: -1, Mode: -1, Stratum: -1, Poll: -129, Precision: -129})
}

// outside are numbers that are not from least to greatest, also those whose last bits are.
func outside(least, greatest int) []int {
	return []int{least - 1, least - 2, greatest + 1, greatest + 2, least - 256, greatest + 256, least + 1<<32, greatest - 1<<32, least + 1<<16, math.MinInt, math.MinInt + greatest, math.MaxInt, math.MaxInt - 255}
}
