package cookie_test

import (
	"bytes"
	"crypto/hkdf"
	"crypto/sha256"
	"encoding/binary"
	"encoding/hex"
	"slices"
	"testing"

	"sectime/aead"
	"sectime/api"
)

// The definitions of the chapter, with the library's HKDF and numbers in bytes, and layer 6.

const greatest = 1<<32 - 1 // ID of a key

// counted are so many bytes from first on.
func counted(first, size int) []byte {
	b := make([]byte, size)
	for k := range b {
		b[k] = byte(first + k)
	}
	return b
}

func seed() []byte { return counted(0x40, 32) }

func pair() api.Pair { return api.Pair{Up: counted(0x10, 32), Down: counted(0x70, 32)} }

func nonce() []byte { return counted(0xa0, 16) }

// ring has a key of its own for each ID, in this order.
func ring(ids ...int) api.Ring {
	var r api.Ring
	for k, id := range ids {
		r.Keys = append(r.Keys, api.Master{ID: id, Key: counted(7*k+id%100, 32)})
	}
	return r
}

// rings are valid ones of each length, with IDs at the bounds, in any order and next to each other.
func rings() []api.Ring {
	return []api.Ring{
		ring(0), ring(1), ring(greatest), ring(0x01020304),
		ring(0, 1), ring(1, 0), ring(greatest, 1), ring(0, greatest), ring(1<<31-1, 1<<31-2),
		ring(2, 1, 0), ring(1, 0, greatest), ring(0, greatest, greatest-1), ring(256, 65536, 1<<24),
		ring(3, 2, 1, 0), ring(greatest, 9, 3, 7), ring(greatest, greatest-1, greatest-2, greatest-3), ring(1<<24, 1<<16, 1<<8, 1),
		ring(5, 1, 3, 6), ring(greatest, 1, 2, 0),
	}
}

func sameRing(a, b api.Ring) bool {
	return slices.EqualFunc(a.Keys, b.Keys, func(x, y api.Master) bool {
		return x.ID == y.ID && bytes.Equal(x.Key, y.Key)
	})
}

func samePair(a, b api.Pair) bool {
	return bytes.Equal(a.Up, b.Up) && bytes.Equal(a.Down, b.Down)
}

// cloned is the same ring in other memory.
func cloned(r api.Ring) api.Ring {
	var other api.Ring
	for _, m := range r.Keys {
		other.Keys = append(other.Keys, api.Master{ID: m.ID, Key: bytes.Clone(m.Key)})
	}
	return other
}

func unhex(t *testing.T, text string) []byte {
	t.Helper()
	b, err := hex.DecodeString(text)
	if err != nil {
		t.Fatal(err)
	}
	return b
}

func standardValid(r api.Ring) bool {
	for k, m := range r.Keys {
		for _, other := range r.Keys[:k] {
			if other.ID == m.ID {
				return false
			}
		}
		if m.ID < 0 || m.ID > greatest || len(m.Key) != 32 {
			return false
		}
	}
	return len(r.Keys) >= 1 && len(r.Keys) <= 4
}

func standardKey(t *testing.T, key []byte, info string) []byte {
	t.Helper()
	b, err := hkdf.Expand(sha256.New, key, info, 32)
	if err != nil {
		t.Fatal(err)
	}
	return b
}

func standardRotate(t *testing.T, r api.Ring) (api.Ring, api.Errno) {
	t.Helper()
	if !standardValid(r) {
		return api.Ring{}, api.ErrForm
	}
	next := api.Master{ID: int(uint32(r.Keys[0].ID) + 1), Key: standardKey(t, r.Keys[0].Key, "sectime next")}
	all := slices.Concat([]api.Master{next}, r.Keys)
	if len(all) > 4 {
		all = all[:4]
	}
	if !standardValid(api.Ring{Keys: all}) {
		return api.Ring{}, api.ErrState
	}
	return api.Ring{Keys: all}, api.OK
}

// sealed are the bytes of a cookie with any plain bytes in it.
func sealed(t *testing.T, m api.Master, nonce, plain []byte) []byte {
	t.Helper()
	id := binary.BigEndian.AppendUint32(nil, uint32(m.ID))
	b, e := aead.Seal(m.Key, [][]byte{id, nonce}, plain)
	if e != api.OK {
		t.Fatalf("Seal returns %v", e)
	}
	return slices.Concat(id, nonce, b)
}

// standardMake is for arguments that have no error.
func standardMake(t *testing.T, m api.Master, algo int, p api.Pair, nonce []byte) []byte {
	t.Helper()
	head := binary.BigEndian.AppendUint16(nil, uint16(algo))
	return sealed(t, m, nonce, slices.Concat(head, []byte{0, 0}, p.Up, p.Down))
}

// opened is what Open returns.
type opened struct {
	algo int
	p    api.Pair
	age  int
	e    api.Errno
}

func (o opened) same(other opened) bool {
	return o.algo == other.algo && samePair(o.p, other.p) && o.age == other.age && o.e == other.e
}

// standardOpen makes the cookie again of what is in it.
func standardOpen(t *testing.T, r api.Ring, b []byte) opened {
	t.Helper()
	if !standardValid(r) || len(b) != 104 {
		return opened{e: api.ErrForm}
	}
	for age, m := range r.Keys {
		if m.ID != int(binary.BigEndian.Uint32(b)) {
			continue
		}
		plain, e := aead.Open(m.Key, [][]byte{b[:4], b[4:20]}, b[20:])
		if e != api.OK {
			return opened{e: api.ErrAuth}
		}
		o := opened{int(plain[0])*256 + int(plain[1]), api.Pair{Up: plain[4:36], Down: plain[36:]}, age, api.OK}
		if !bytes.Equal(b, standardMake(t, m, o.algo, o.p, b[4:20])) {
			return opened{e: api.ErrAuth}
		}
		return o
	}
	return opened{e: api.ErrKey}
}
