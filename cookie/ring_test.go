package cookie_test

import (
	"math"
	"math/rand"
	"slices"
	"testing"

	"sectime/api"
	"sectime/cookie"
)

func TestValid(t *testing.T) {
	for _, r := range rings() {
		if !cookie.Valid(r) {
			t.Errorf("%v is not valid", r)
		}
	}
	for _, r := range []api.Ring{
		{}, {Keys: []api.Master{}}, {Keys: make([]api.Master, 1)}, ring(0, 1, 2, 3, 4), ring(5, 4, 3, 2, 1, 0), ring(-1), ring(greatest + 1), ring(math.MinInt), ring(math.MaxInt), ring(0, 1<<32),
	} {
		if cookie.Valid(r) {
			t.Errorf("%v is valid", r)
		}
	}
}

// What is wrong with a single key of a valid ring, whichever it is.
func TestValidOfChangedKeys(t *testing.T) {
	for _, r := range rings() {
		for k := range r.Keys {
			for _, id := range []int{-1, -greatest, 1 << 32, 1<<32 + r.Keys[k].ID, math.MinInt, math.MaxInt} {
				bad := cloned(r)
				bad.Keys[k].ID = id
				if cookie.Valid(bad) {
					t.Errorf("with the ID %d, %v is valid", id, bad)
				}
			}
			for size := range 70 {
				other := cloned(r)
				other.Keys[k].Key = counted(k, size)
				if cookie.Valid(other) != (size == 32) {
					t.Errorf("with a key of %d bytes at %d, Valid of %v is %v", size, k, other, size != 32)
				}
			}
			for other := range r.Keys {
				bad := cloned(r)
				bad.Keys[k].ID = bad.Keys[other].ID
				if cookie.Valid(bad) != (k == other) {
					t.Errorf("with the same ID at %d and %d, Valid of %v is %v", k, other, bad, k != other)
				}
			}
		}
	}
	// Equal keys may have different IDs.
	key := seed()
	if !cookie.Valid(api.Ring{Keys: []api.Master{{ID: 7, Key: key}, {ID: 8, Key: key}}}) {
		t.Error("a ring with equal keys is not valid")
	}
}

func TestRandomRings(t *testing.T) {
	r := rand.New(rand.NewSource(19))
	valid, rotated, stuck := 0, 0, 0
	for range 20000 {
		var some api.Ring
		for range r.Intn(6) {
			id := []int{r.Intn(4), greatest - r.Intn(4)}[r.Intn(2)]
			some.Keys = append(some.Keys, api.Master{ID: id, Key: counted(r.Intn(9), 32)})
			if r.Intn(40) == 0 {
				some.Keys[len(some.Keys)-1] = api.Master{ID: []int{-1, 1 << 32, 9}[r.Intn(3)], Key: make([]byte, 31+r.Intn(3))}
			}
		}
		want := standardValid(some)
		if cookie.Valid(some) != want {
			t.Fatalf("Valid of %v is not %v", some, want)
		}
		switch checkRotate(t, some) {
		case api.OK:
			rotated++
		case api.ErrState:
			stuck++
		}
		if want {
			valid++
		}
	}
	if valid < 1000 || rotated < 1000 || stuck < 100 || valid != rotated+stuck {
		t.Errorf("%d rings are valid, %d of them can be rotated and %d cannot", valid, rotated, stuck)
	}
}

func TestStart(t *testing.T) {
	for _, id := range []int{0, 1, 41, 255, 256, 1<<31 - 1, 1 << 31, greatest - 1, greatest} {
		for _, b := range [][]byte{seed(), make([]byte, 32), counted(255, 32)} {
			want := api.Ring{Keys: []api.Master{{ID: id, Key: standardKey(t, b, "sectime start")}}}
			r, e := cookie.Start(id, b)
			if e != api.OK || !sameRing(r, want) || !cookie.Valid(r) {
				t.Errorf("Start of %d and %x is %v and %v, want %v", id, b, r, e, want)
			}
		}
	}
}

func TestStartErrors(t *testing.T) {
	for size := range 70 {
		for _, id := range []int{-1, math.MinInt, greatest + 1, math.MaxInt, 0, 5, greatest} {
			want := api.OK
			switch {
			case id < 0 || id > greatest:
				want = api.ErrRange
			case size != 32:
				want = api.ErrKey
			}
			if r, e := cookie.Start(id, counted(1, size)); e != want || e != api.OK && len(r.Keys) != 0 {
				t.Errorf("Start of %d and %d bytes is %v and %v, want %v", id, size, r, e, want)
			}
		}
	}
	if r, e := cookie.Start(0, nil); e != api.ErrKey || len(r.Keys) != 0 {
		t.Errorf("Start without a seed is %v and %v", r, e)
	}
}

// The keys were computed by another program, with the HKDF of OpenSSL.
func TestKnownKeys(t *testing.T) {
	r, e := cookie.Start(greatest-1, seed())
	for k, want := range []string{
		"b6adc28f22a50c49865466fb3716acff783a09ae3966484e00452ab4ad679785",
		"2f7f69e13846f63b697ec286d4981323611670d9b04a817ce3903569f1307065",
		"9ce8d8939c7475e2e44a791367b5e0e105a8be97796fadfb2e2fc7f0cd4f45da",
		"dd718989819176fd9943555305c19eee14264cc46f67bc8c440ce8d40ab6aaf4",
		"99bf4ff5016f7a62c975932350eec42fda1bc73da15cbea0fc0e6b958cdd5583",
	} {
		id := []int{greatest - 1, greatest, 0, 1, 2}[k]
		if e != api.OK || len(r.Keys) != min(k+1, 4) || !sameRing(api.Ring{Keys: r.Keys[:1]}, api.Ring{Keys: []api.Master{{ID: id, Key: unhex(t, want)}}}) {
			t.Fatalf("after %d rotations the ring is %v and %v, want first the key %s with the ID %d", k, r, e, want, id)
		}
		r, e = cookie.Rotate(r)
	}
}

// checkRotate returns the error.
func checkRotate(t *testing.T, r api.Ring) api.Errno {
	t.Helper()
	want, wanted := standardRotate(t, r)
	got, e := cookie.Rotate(r)
	if e != wanted || !sameRing(got, want) {
		t.Fatalf("Rotate of %v is %v and %v, want %v and %v", r, got, e, want, wanted)
	}
	return e
}

func TestRotate(t *testing.T) {
	for _, r := range rings() {
		for range 10 {
			if e := checkRotate(t, r); e != api.OK {
				break
			}
			next, _ := cookie.Rotate(r)
			if !cookie.Valid(next) || len(next.Keys) != min(len(r.Keys)+1, 4) {
				t.Fatalf("Rotate of %v is %v", r, next)
			}
			r = next
		}
	}
}

func TestRotateErrors(t *testing.T) {
	for _, c := range []struct {
		ids  []int
		want api.Errno
	}{
		{nil, api.ErrForm},
		{[]int{-1}, api.ErrForm},
		{[]int{1 << 32}, api.ErrForm},
		{[]int{5, 5}, api.ErrForm},
		{[]int{5, 6, 6}, api.ErrForm},
		{[]int{5, 6, 3, 2, 1}, api.ErrForm},
		{[]int{5}, api.OK},
		{[]int{5, 6}, api.ErrState},
		{[]int{5, 3, 6}, api.ErrState},
		{[]int{5, 6, 3, 2}, api.ErrState},
		{[]int{5, 3, 6, 2}, api.ErrState},
		// The last key of a full ring does not remain, so its ID is free.
		{[]int{5, 3, 2, 6}, api.OK},
		{[]int{greatest, 0}, api.ErrState},
		{[]int{greatest, 1, 0}, api.ErrState},
		{[]int{greatest, 3, 1, 0}, api.OK},
		{[]int{greatest, 1}, api.OK},
		{[]int{5, 4, 3, 2}, api.OK},
	} {
		r := ring(c.ids...)
		if got, e := cookie.Rotate(r); e != c.want || e != api.OK && len(got.Keys) != 0 {
			t.Errorf("Rotate of the IDs %v is %v and %v, want %v", c.ids, got, e, c.want)
		}
		checkRotate(t, r)
	}
	for size := range 70 {
		r := ring(5, 6)
		r.Keys[1].Key = counted(1, size)
		want := api.ErrForm
		if size == 32 {
			want = api.ErrState
		}
		if got, e := cookie.Rotate(r); e != want || len(got.Keys) != 0 {
			t.Errorf("Rotate with a key of %d bytes is %v and %v, want %v", size, got, e, want)
		}
	}
}

// Servers that start with the same seed have the same ring after as many rotations.
func TestServersRotateAlike(t *testing.T) {
	a, _ := cookie.Start(greatest-2, seed())
	b, _ := cookie.Start(greatest-2, seed())
	var ids []int
	for range 8 {
		a, _ = cookie.Rotate(a)
		b, _ = cookie.Rotate(cloned(b))
		if !sameRing(a, b) {
			t.Fatalf("the rings are %v and %v", a, b)
		}
		ids = append(ids, a.Keys[0].ID)
	}
	if !slices.Equal(ids, []int{greatest - 1, greatest, 0, 1, 2, 3, 4, 5}) {
		t.Errorf("the new IDs are %v", ids)
	}
}
