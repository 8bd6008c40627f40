package cookie_test

import (
	"bytes"
	"testing"

	"sectime/api"
	"sectime/cookie"
)

// roomy is the beginning of longer memory that no function may write to or show.
func roomy(b []byte) []byte {
	return append(bytes.Clone(b), counted(200, 100)...)[:len(b)]
}

// spoil changes all the memory of bytes, so that whatever shares it shows.
func spoil(b []byte) {
	b = b[:cap(b)]
	for k := range b {
		b[k] ^= 0xff
	}
}

// unspoilt reports whether bytes made by roomy, and those behind them, are still what they were.
func unspoilt(b, want []byte) bool {
	return bytes.Equal(b, want) && bytes.Equal(b[:len(b)+100][len(b):], counted(200, 100))
}

// roomyRing is the beginning of longer lists.
func roomyRing(r api.Ring) api.Ring {
	var other api.Ring
	for _, m := range append(cloned(r).Keys, api.Master{ID: 99}, api.Master{ID: 98}) {
		other.Keys = append(other.Keys, api.Master{ID: m.ID, Key: roomy(m.Key)})
	}
	other.Keys = other.Keys[:len(r.Keys)]
	return other
}

func checkRing(t *testing.T, name string, r, want api.Ring) {
	t.Helper()
	if !sameRing(r, want) {
		t.Fatalf("%s changes the ring, or shares memory with it: %v, want %v", name, r, want)
	}
	for k, m := range r.Keys {
		if !unspoilt(m.Key, want.Keys[k].Key) {
			t.Fatalf("%s writes behind a key", name)
		}
	}
	behind := r.Keys[:len(r.Keys)+2][len(r.Keys):]
	if behind[0].ID != 99 || behind[1].ID != 98 {
		t.Fatalf("%s writes behind the keys of the ring", name)
	}
}

func TestMemoryOfRings(t *testing.T) {
	b := roomy(seed())
	r, _ := cookie.Start(5, b)
	spoil(r.Keys[0].Key)
	if !unspoilt(b, seed()) {
		t.Error("Start shares memory with its argument, or changes it")
	}
	for _, want := range rings() {
		r := roomyRing(want)
		cookie.Valid(r)
		checkRing(t, "Valid", r, want)
		wanted, _ := standardRotate(t, want)
		for range 2 {
			next, _ := cookie.Rotate(r)
			for k, m := range next.Keys {
				if !bytes.Equal(m.Key, wanted.Keys[k].Key) {
					t.Fatalf("key %d of Rotate of %v shares memory with an earlier one", k, want)
				}
				spoil(m.Key)
			}
			clear(next.Keys[:cap(next.Keys)])
			checkRing(t, "Rotate", r, want)
		}
	}
}

// The keys of a ring may share memory, and those of the next one do not.
func TestRotateOfSharedKeys(t *testing.T) {
	key := seed()
	r, e := cookie.Rotate(api.Ring{Keys: []api.Master{{ID: 7, Key: key}, {ID: 5, Key: key}}})
	if e != api.OK {
		t.Fatalf("Rotate returns %v", e)
	}
	spoil(r.Keys[1].Key)
	if !bytes.Equal(r.Keys[2].Key, seed()) || !bytes.Equal(key, seed()) {
		t.Error("keys of the next ring share memory")
	}
}

func TestMemoryOfCookies(t *testing.T) {
	for _, want := range rings() {
		r, p, n := roomyRing(want), api.Pair{Up: roomy(pair().Up), Down: roomy(pair().Down)}, roomy(nonce())
		made := standardMake(t, want.Keys[0], 15, pair(), nonce())
		for range 2 {
			b, e := cookie.Make(r, 15, p, n)
			if e != api.OK || !bytes.Equal(b, made) {
				t.Fatalf("Make is %x and %v, want %x", b, e, made)
			}
			spoil(b)
			checkRing(t, "Make", r, want)
			if !unspoilt(p.Up, pair().Up) || !unspoilt(p.Down, pair().Down) || !unspoilt(n, nonce()) {
				t.Fatal("Make shares memory with an argument, or changes it")
			}
		}
		b := roomy(made)
		for range 2 {
			checkOpen(t, r, b, opened{15, pair(), 0, api.OK})
			_, got, _, _ := cookie.Open(r, b)
			spoil(got.Up)
			if !bytes.Equal(got.Down, pair().Down) {
				t.Fatal("the keys of a pair share memory")
			}
			spoil(got.Down)
			cookie.ID(b)
			checkRing(t, "Open", r, want)
			if !unspoilt(b, made) {
				t.Fatal("Open or ID shares memory with its argument, or changes it")
			}
		}
	}
}

// Arguments that are refused stay as they are too.
func TestMemoryOfRefusedCookies(t *testing.T) {
	want := ring(5, 4)
	r := roomyRing(want)
	bad := standardMake(t, want.Keys[0], 15, pair(), nonce())
	bad[50] ^= 1
	b := roomy(bad)
	if got := open(r, b); !got.same(opened{e: api.ErrAuth}) {
		t.Errorf("Open is %v, want ErrAuth", got)
	}
	cookie.Open(r, b[:103])
	cookie.ID(b[:103])
	if !unspoilt(b, bad) {
		t.Error("bytes that are refused are changed")
	}
	n := roomy(nonce())
	cookie.Make(r, 15, pair(), n[:15])
	if !unspoilt(n, nonce()) {
		t.Error("a nonce that is refused is changed")
	}
	checkRing(t, "a function that refuses", r, want)
}
