package protect

import (
	"slices"

	"sectime/api"
	"sectime/extension"
)

const tagSize = 16 // bytes that sealed bytes have more than what is sealed

// Length returns the number of bytes of a protected packet, of whose fields these are the numbers of bytes of their data, with a nonce of 16 bytes.
func Length(plain, secret []int) (int, api.Errno) {
	if slices.ContainsFunc(plain, unfit) || slices.ContainsFunc(secret, unfit) {
		return 0, api.ErrRange
	}
	ahead, e := total(plain)
	if e != api.OK {
		return 0, e
	}
	hidden, e := total(secret)
	if e != api.OK {
		return 0, e
	}
	last, e := extension.Size(guard(make([]byte, leastNonce), make([]byte, tagSize+hidden)))
	if e != api.OK || api.HeadSize+ahead+last > api.MaxPacket {
		return 0, api.ErrLong
	}
	return api.HeadSize + ahead + last, api.OK
}

// unfit reports whether no packet has so many bytes.
func unfit(size int) bool {
	return size < 0 || size > api.MaxPacket
}

// total returns the number of bytes of fields with so many bytes of data each, of which a packet must have room for all.
func total(sizes []int) (int, api.Errno) {
	all := 0
	for _, n := range sizes {
		size, e := extension.Size(api.Field{Data: make([]byte, n)})
		if e != api.OK || all+size > api.MaxPacket-api.HeadSize {
			return 0, api.ErrLong
		}
		all += size
	}
	return all, api.OK
}
