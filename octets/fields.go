package octets

import "sectime/api"

const (
	partSize = 2 // bytes of a field's type, and of its size
	headSize = 2 * partSize
	maxPart  = 1<<(8*partSize) - 1
)

// Fields returns the fields whose Write is b.
func Fields(b []byte) ([]api.Field, api.Errno) {
	if len(b) > api.MaxMessage {
		return nil, api.ErrLong
	}
	var l []api.Field
	for len(b) > 0 {
		f, size, ok := first(b)
		if !ok {
			return nil, api.ErrShort
		}
		l = append(l, f)
		b = b[size:]
	}
	return l, api.OK
}

// first returns the field at the beginning of b and the number of its bytes, if it is complete.
func first(b []byte) (api.Field, int, bool) {
	if len(b) < headSize {
		return api.Field{}, 0, false
	}
	size := headSize + int(Get(b[partSize:headSize]))
	if len(b) < size {
		return api.Field{}, 0, false
	}
	return api.Field{Type: int(Get(b[:partSize])), Data: Join(b[headSize:size])}, size, true
}

// Write returns the bytes of all fields in order.
func Write(l []api.Field) ([]byte, api.Errno) {
	size := 0
	for _, f := range l {
		if e := check(f); e != api.OK {
			return nil, e
		}
		size += headSize + len(f.Data)
	}
	// Measured before any byte is written, as fields that share their data may say far more than they hold.
	if size > api.MaxMessage {
		return nil, api.ErrLong
	}
	b := make([]byte, 0, size)
	for _, f := range l {
		b = append(b, Join(Put(uint64(f.Type), partSize), Put(uint64(len(f.Data)), partSize), f.Data)...)
	}
	return b, api.OK
}

func check(f api.Field) api.Errno {
	if f.Type < 0 || f.Type > maxPart {
		return api.ErrRange
	}
	if len(f.Data) > maxPart {
		return api.ErrLong
	}
	return api.OK
}
