package protect

import (
	"sectime/api"
	"sectime/octets"
)

const (
	partSize = 2 // bytes of the number of bytes of the nonce, and of that of the sealed bytes
	unit     = 4 // the nonce and the sealed bytes are padded to a multiple of it

	leastNonce = 16
	mostNonce  = 32
)

// fits reports whether a nonce may have so many bytes.
func fits(size int) bool {
	return leastNonce <= size && size <= mostNonce
}

// guard returns the field that protects what is ahead of it.
func guard(nonce, sealed []byte) api.Field {
	return api.Field{Type: api.ExtAuth, Data: octets.Join(
		octets.Put(uint64(len(nonce)), partSize),
		octets.Put(uint64(len(sealed)), partSize),
		octets.Pad(nonce, unit),
		octets.Pad(sealed, unit),
	)}
}

// parts returns the nonce and the sealed bytes of which guard makes a field with these data, if there are any.
func parts(data []byte) (nonce, sealed []byte, ok bool) {
	sizes, rest, ok := octets.Cut(data, 2*partSize)
	if !ok {
		return nil, nil, false
	}
	nonceSize, sealedSize := int(octets.Get(sizes[:partSize])), int(octets.Get(sizes[partSize:]))
	nonce, _, ok = octets.Cut(rest, nonceSize)
	if !ok || !fits(nonceSize) {
		return nil, nil, false
	}
	_, rest, ok = octets.Cut(rest, len(octets.Pad(nonce, unit)))
	if !ok {
		return nil, nil, false
	}
	sealed, _, ok = octets.Cut(rest, sealedSize)
	// What guard makes of the parts has the zeros that must be there, and no other bytes.
	if !ok || !octets.Same(guard(nonce, sealed).Data, data) {
		return nil, nil, false
	}
	return nonce, sealed, true
}
