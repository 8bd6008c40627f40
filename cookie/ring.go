package cookie

import (
	"sectime/api"
	"sectime/kdf"
	"sectime/octets"
)

const ids = 1 << (8 * idSize) // IDs that there are, from 0 on

// Valid reports whether a server can have this ring.
func Valid(r api.Ring) bool {
	if len(r.Keys) < 1 || len(r.Keys) > api.MaxRing {
		return false
	}
	seen := map[int]bool{}
	for _, m := range r.Keys {
		if !isID(m.ID) || seen[m.ID] || len(m.Key) != api.KeySize {
			return false
		}
		seen[m.ID] = true
	}
	return true
}

// Start returns the ring whose only key follows from seed.
func Start(id int, seed []byte) (api.Ring, api.Errno) {
	if !isID(id) {
		return api.Ring{}, api.ErrRange
	}
	if len(seed) != api.KeySize {
		return api.Ring{}, api.ErrKey
	}
	return api.Ring{Keys: []api.Master{{ID: id, Key: derived(seed, "sectime start")}}}, api.OK
}

// Rotate returns the ring with a key ahead of the others that follows from the newest one, and without the oldest one if it was full.
func Rotate(r api.Ring) (api.Ring, api.Errno) {
	if !Valid(r) {
		return api.Ring{}, api.ErrForm
	}
	first := r.Keys[0]
	id := (first.ID + 1) % ids
	keys := []api.Master{{ID: id, Key: derived(first.Key, "sectime next")}}
	for _, m := range r.Keys[:min(len(r.Keys), api.MaxRing-1)] {
		if m.ID == id {
			return api.Ring{}, api.ErrState
		}
		keys = append(keys, api.Master{ID: m.ID, Key: octets.Join(m.Key)})
	}
	return api.Ring{Keys: keys}, api.OK
}

// isID reports whether a key may have this ID.
func isID(id int) bool {
	return 0 <= id && id < ids
}

// derived returns the master key that follows from a key.
func derived(key []byte, info string) []byte {
	// Expand has no error: a master key is far shorter than what it may return.
	b, _ := kdf.Expand(key, []byte(info), api.KeySize)
	return b
}
