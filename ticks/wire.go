package ticks

import (
	"math"

	"sectime/api"
)

const (
	fineBits = 32 - api.TickBits // a tick has 1 << fineBits units of a wire timestamp
	fine     = 1 << fineBits
	unitBits = api.TickBits - 16 // a unit of 2^-16 seconds has 1 << unitBits ticks
	unit     = 1 << unitBits
)

// Wire returns the wire timestamp of t, which does not tell the era.
func Wire(t int) (uint64, api.Errno) {
	if !Valid(t) {
		return 0, api.ErrRange
	}
	return uint64(uint32(Second(t)))<<32 | uint64(Part(t))<<fineBits, api.OK
}

// Down returns the ticks of a wire timestamp from the beginning of its era, rounded down.
func Down(w uint64) int {
	return int(w >> fineBits)
}

// Up returns the ticks of a wire timestamp from the beginning of its era, rounded up: for the last ones, to the end of the era.
func Up(w uint64) int {
	if w%fine == 0 {
		return Down(w)
	}
	return Down(w) + 1
}

// Delay returns the ticks of a number of 2^-16 seconds.
func Delay(x uint32) int {
	return int(x) << unitBits
}

// Units returns ticks as a number of 2^-16 seconds, rounded down, or up.
func Units(d int, up bool) (uint32, api.Errno) {
	if d < 0 {
		return 0, api.ErrRange
	}
	n := quotient(d, unit, up)
	if n > math.MaxUint32 {
		return 0, api.ErrRange
	}
	return uint32(n), api.OK
}
