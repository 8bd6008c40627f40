package aead_test

import (
	"testing"

	"sectime/aead"
	"sectime/api"
)

// checkErrors checks that Seal and Tag of b return one error, Open of it another one, and nothing else.
func checkErrors(t *testing.T, key []byte, ad [][]byte, b []byte, seal, open api.Errno) {
	t.Helper()
	for _, c := range []struct {
		name   string
		result func(key []byte, ad [][]byte, b []byte) ([]byte, api.Errno)
		want   api.Errno
	}{
		{"Seal", aead.Seal, seal},
		{"Tag", aead.Tag, seal},
		{"Open", aead.Open, open},
	} {
		got, e := c.result(key, ad, b)
		if e != c.want || e != api.OK && len(got) != 0 {
			t.Errorf("%s with a key of %d bytes, %d elements and %d bytes returns %.20x and %v, want %v", c.name, len(key), len(ad), len(b), got, e, c.want)
		}
	}
}

// longAt returns n elements, of which one is one byte too long.
func longAt(n, at int) [][]byte {
	l := make([][]byte, n)
	l[at] = make([]byte, longest+1)
	return l
}

// All lengths but the right one: that of a half, and those of the other kinds of keys, among them.
func TestLengthsOfKeys(t *testing.T) {
	for size := range 100 {
		if size != 32 {
			checkErrors(t, message(3, size), nil, message(40, 20), api.ErrKey, api.ErrKey)
		}
	}
	checkErrors(t, nil, nil, nil, api.ErrKey, api.ErrKey)
}

func TestErrors(t *testing.T) {
	key, part := message(3, 32), message(40, 15)
	bytes := func(size int) []byte { return make([]byte, size) }
	for _, c := range []struct {
		key        []byte
		ad         [][]byte
		b          []byte
		seal, open api.Errno
	}{
		// the key is looked at first
		{key[1:], make([][]byte, mostElements+1), part, api.ErrKey, api.ErrKey},
		{key[1:], longAt(1, 0), part, api.ErrKey, api.ErrKey},
		{message(3, 33), longAt(mostElements+1, 0), bytes(api.MaxMessage + 1), api.ErrKey, api.ErrKey},
		{key[:16], nil, bytes(api.MaxMessage + 1), api.ErrKey, api.ErrKey},
		{nil, nil, part, api.ErrKey, api.ErrKey},
		// then the number of elements
		{key, make([][]byte, mostElements+1), part, api.ErrLimit, api.ErrLimit},
		{key, make([][]byte, mostElements+1), bytes(api.MaxMessage + 1), api.ErrLimit, api.ErrLimit},
		{key, longAt(mostElements+1, 0), part, api.ErrLimit, api.ErrLimit},
		{key, longAt(mostElements+1, mostElements), bytes(40), api.ErrLimit, api.ErrLimit},
		{key, make([][]byte, 1000), nil, api.ErrLimit, api.ErrLimit},
		// then lengths above the limits
		{key, longAt(1, 0), part, api.ErrLong, api.ErrLong},
		{key, longAt(1, 0), bytes(40), api.ErrLong, api.ErrLong},
		{key, longAt(1, 0), nil, api.ErrLong, api.ErrLong},
		{key, longAt(mostElements, 0), bytes(api.MaxMessage + 1), api.ErrLong, api.ErrLong},
		{key, [][]byte{bytes(api.MaxMessage)}, part, api.ErrLong, api.ErrLong},
		{key, [][]byte{nil, bytes(2 * api.MaxMessage)}, part, api.ErrLong, api.ErrLong},
		{key, nil, bytes(api.MaxMessage + 1), api.ErrLong, api.ErrLong},
		{key, nil, bytes(api.MaxMessage + 16), api.ErrLong, api.ErrLong},
		{key, nil, bytes(2 * api.MaxMessage), api.ErrLong, api.ErrLong},
		// sealed bytes may be longer than plain ones
		{key, nil, bytes(longest + 1), api.ErrLong, api.ErrAuth},
		{key, nil, bytes(api.MaxMessage), api.ErrLong, api.ErrAuth},
		// and may not be shorter than a tag
		{key, nil, nil, api.OK, api.ErrShort},
		{key, nil, []byte{}, api.OK, api.ErrShort},
		{key, make([][]byte, mostElements), part, api.OK, api.ErrShort},
		{key, [][]byte{bytes(longest)}, part, api.OK, api.ErrShort},
		{key, nil, message(40, 16), api.OK, api.ErrAuth},
		{key, make([][]byte, mostElements), message(40, 16), api.OK, api.ErrAuth},
		{key, [][]byte{bytes(longest)}, bytes(longest), api.OK, api.ErrAuth},
	} {
		checkErrors(t, c.key, c.ad, c.b, c.seal, c.open)
	}
	for size := range 16 {
		checkErrors(t, key, [][]byte{key}, message(40, size), api.OK, api.ErrShort)
	}
}

func TestLongElements(t *testing.T) {
	key := message(3, 32)
	for n := 1; n <= mostElements; n++ {
		for at := range n {
			checkErrors(t, key, longAt(n, at), message(40, 20), api.ErrLong, api.ErrLong)
		}
	}
}
