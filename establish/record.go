package establish

import (
	"sectime/api"
	"sectime/octets"
)

const (
	numberSize = 2 // bytes of a number in a Body
	numbers    = 1 << (8 * numberSize)

	typeSize = 2 // bytes of the Type of a record
	sizeSize = 2 // bytes of the number of bytes of its Body
	headSize = typeSize + sizeSize
	maxBody  = 1<<(8*sizeSize) - 1

	criticalBit = 1 << (8*typeSize - 1) // is added to the Type of a critical record
)

// Encode returns the bytes of all records in order.
func Encode(l []api.Record) ([]byte, api.Errno) {
	all := 0
	for _, r := range l {
		if r.Type < 0 || r.Type >= criticalBit {
			return nil, api.ErrRange
		}
		if len(r.Body) > maxBody {
			return nil, api.ErrLong
		}
		all += headSize + len(r.Body)
	}
	if len(l) > api.MaxRecords {
		return nil, api.ErrLimit
	}
	if all > api.MaxMessage {
		return nil, api.ErrLong
	}
	b := make([]byte, 0, all)
	for _, r := range l {
		b = append(b, bytesOf(r)...)
	}
	return b, api.OK
}

// bytesOf returns the bytes of a record that has no error.
func bytesOf(r api.Record) []byte {
	kind := r.Type
	if r.Critical {
		kind += criticalBit
	}
	return octets.Join(octets.Put(uint64(kind), typeSize), octets.Put(uint64(len(r.Body)), sizeSize), r.Body)
}

// Decode returns the records whose bytes are b.
func Decode(b []byte) ([]api.Record, api.Errno) {
	if len(b) > api.MaxMessage {
		return nil, api.ErrLong
	}
	var l []api.Record
	for len(b) > 0 {
		size, ok := first(b)
		if !ok {
			return nil, api.ErrShort
		}
		l = append(l, recordOf(b[:size]))
		b = b[size:]
	}
	// Records that are too many are counted to the end, as a last one that is not complete comes before them.
	if len(l) > api.MaxRecords {
		return nil, api.ErrLimit
	}
	return l, api.OK
}

// first returns the number of bytes of the record at the beginning of b; false if b has fewer.
func first(b []byte) (int, bool) {
	if len(b) < headSize {
		return 0, false
	}
	size := headSize + int(octets.Get(b[typeSize:headSize]))
	return size, size <= len(b)
}

// recordOf returns the record whose bytes are b, all of them.
func recordOf(b []byte) api.Record {
	kind := int(octets.Get(b[:typeSize]))
	return api.Record{Critical: kind >= criticalBit, Type: kind % criticalBit, Body: octets.Join(b[headSize:])}
}

// Numbers returns the numbers in a Body.
func Numbers(b []byte) ([]int, bool) {
	if len(b)%numberSize != 0 {
		return nil, false
	}
	l := make([]int, 0, len(b)/numberSize)
	for place := 0; place < len(b); place += numberSize {
		l = append(l, int(octets.Get(b[place:place+numberSize])))
	}
	return l, true
}

// bodyOf returns the Body with these numbers.
func bodyOf(l ...int) []byte {
	var b []byte
	for _, n := range l {
		b = append(b, octets.Put(uint64(n), numberSize)...)
	}
	return b
}

// areNumbers reports whether all elements can stand in a Body.
func areNumbers(l ...int) bool {
	for _, n := range l {
		if n < 0 || n >= numbers {
			return false
		}
	}
	return true
}

// critical returns a record that the other end must know.
func critical(kind int, body []byte) api.Record {
	return api.Record{Critical: true, Type: kind, Body: body}
}
