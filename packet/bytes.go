package packet

import (
	"sectime/api"
	"sectime/octets"
)

const (
	leapShift    = 6 // where Leap and Version begin in the first byte
	versionShift = 3
	versionMask  = 7
	modeMask     = 7
)

// Encode returns the bytes of h.
func Encode(h api.Header) ([]byte, api.Errno) {
	if e := Valid(h); e != api.OK {
		return nil, e
	}
	first := h.Leap<<leapShift | h.Version<<versionShift | h.Mode
	// Of a number below zero the last byte is the signed one, and Put takes no other.
	return octets.Join(
		octets.Put(uint64(first), 1),
		octets.Put(uint64(h.Stratum), 1),
		octets.Put(uint64(h.Poll), 1),
		octets.Put(uint64(h.Precision), 1),
		octets.Put(uint64(h.RootDelay), 4),
		octets.Put(uint64(h.RootDisp), 4),
		octets.Put(uint64(h.RefID), 4),
		octets.Put(h.Ref, 8),
		octets.Put(h.Origin, 8),
		octets.Put(h.Receive, 8),
		octets.Put(h.Transmit, 8),
	), api.OK
}

// Decode returns the header at the beginning of b, and the bytes behind it.
func Decode(b []byte) (h api.Header, rest []byte, e api.Errno) {
	if len(b) < api.HeadSize {
		return api.Header{}, nil, api.ErrShort
	}
	if len(b) > api.MaxPacket {
		return api.Header{}, nil, api.ErrLong
	}
	h = header(b[:api.HeadSize])
	// Every other number takes all values that its bits can have.
	if !known(h.Version) {
		return api.Header{}, nil, api.ErrForm
	}
	return h, octets.Join(b[api.HeadSize:]), api.OK
}

// header returns the header of which b are all bytes, whatever its version.
func header(b []byte) api.Header {
	r := reader{b}
	next := r.number
	// The numbers are read in the order in which they stand here, which is that of the bytes.
	first := int(next(1))
	return api.Header{
		Leap:      first >> leapShift,
		Version:   first >> versionShift & versionMask,
		Mode:      first & modeMask,
		Stratum:   int(next(1)),
		Poll:      int(int8(next(1))),
		Precision: int(int8(next(1))),
		RootDelay: uint32(next(4)),
		RootDisp:  uint32(next(4)),
		RefID:     uint32(next(4)),
		Ref:       next(8),
		Origin:    next(8),
		Receive:   next(8),
		Transmit:  next(8),
	}
}

// reader has the bytes that were not read.
type reader struct{ left []byte }

// number returns the number in the next bytes, which must be there.
func (r *reader) number(size int) uint64 {
	n := octets.Get(r.left[:size])
	r.left = r.left[size:]
	return n
}
