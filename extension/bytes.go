package extension

import (
	"sectime/api"
	"sectime/octets"
)

const (
	partSize = 2 // bytes of a field's type, and of its size
	headSize = 2 * partSize
	maxPart  = 1<<(8*partSize) - 1

	unit  = 4 // divides the size of a field
	least = 16
)

// Size returns the number of bytes of f, with those of its head and the zeros behind its data.
func Size(f api.Field) (int, api.Errno) {
	if f.Type < 0 || f.Type > maxPart {
		return 0, api.ErrRange
	}
	size := max(least, roundUp(headSize+len(f.Data)))
	if size > room {
		return 0, api.ErrLong
	}
	return size, api.OK
}

// roundUp returns the least multiple of unit that is not less than n.
func roundUp(n int) int {
	return (n + unit - 1) / unit * unit
}

// Encode returns the bytes of all fields in order.
func Encode(l []api.Field) ([]byte, api.Errno) {
	all := 0
	for _, f := range l {
		size, e := Size(f)
		if e != api.OK {
			return nil, e
		}
		all += size
	}
	if len(l) > api.MaxExts {
		return nil, api.ErrLimit
	}
	if all > room {
		return nil, api.ErrLong
	}
	b := make([]byte, 0, all)
	for _, f := range l {
		b = append(b, bytesOf(f)...)
	}
	return b, api.OK
}

// bytesOf returns the bytes of a field that has a size.
func bytesOf(f api.Field) []byte {
	size, _ := Size(f)
	zeros := octets.Put(0, size-headSize-len(f.Data))
	return octets.Join(octets.Put(uint64(f.Type), partSize), octets.Put(uint64(size), partSize), f.Data, zeros)
}

// Decode returns the fields whose bytes are b; their data keep the zeros at their ends.
func Decode(b []byte) ([]api.Field, api.Errno) {
	var l []api.Field
	e := each(b, func(place, size int) {
		field := b[place : place+size]
		l = append(l, api.Field{Type: int(octets.Get(field[:partSize])), Data: octets.Join(field[headSize:])})
	})
	if e != api.OK {
		return nil, e
	}
	return l, api.OK
}

// Places returns the places in b at which fields begin.
func Places(b []byte) ([]int, api.Errno) {
	var places []int
	e := each(b, func(place, size int) {
		places = append(places, place)
	})
	if e != api.OK {
		return nil, e
	}
	return places, api.OK
}

// each hands the place and the size of every field of b to take, as far as there is no error.
func each(b []byte, take func(place, size int)) api.Errno {
	if len(b) > room {
		return api.ErrLong
	}
	place := 0
	for count := 0; place < len(b); count++ {
		size, e := first(b[place:])
		if e != api.OK {
			return e
		}
		if count == api.MaxExts {
			return api.ErrLimit
		}
		take(place, size)
		place += size
	}
	return api.OK
}

// first returns the size of the field at the beginning of b.
func first(b []byte) (int, api.Errno) {
	if len(b) < headSize {
		return 0, api.ErrShort
	}
	size := int(octets.Get(b[partSize:headSize]))
	if size%unit != 0 || size < least {
		return 0, api.ErrForm
	}
	if len(b) < size {
		return 0, api.ErrShort
	}
	return size, api.OK
}
