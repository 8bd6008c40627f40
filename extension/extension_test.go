package extension_test

import (
	"bytes"
	"math"
	"math/rand"
	"slices"
	"testing"

	"sectime/api"
	"sectime/extension"
)

// ofTypes are fields of these types, with data that say nothing about them.
func ofTypes(kinds ...int) []api.Field {
	var l []api.Field
	for k, kind := range kinds {
		l = append(l, filled(7, k))
		l[k].Type = kind
	}
	return l
}

func TestKnownFind(t *testing.T) {
	for _, c := range []struct {
		l    []api.Field
		kind int
		want []int
	}{
		{nil, 0, nil},
		{[]api.Field{{}}, 0, []int{0}},
		{[]api.Field{{}}, 1, nil},
		{ofTypes(5, 6, 5, 5, 7), 5, []int{0, 2, 3}},
		{ofTypes(5, 6, 5, 5, 7), 7, []int{4}},
		{ofTypes(5, 6, 5, 5, 7), 0, nil},
		{ofTypes(5, 5, 5), 5, []int{0, 1, 2}},
		// Types that no bytes have are looked for as all others, and only their last bytes are not enough.
		{ofTypes(-1, 65535, 65536, 0), -1, []int{0}},
		{ofTypes(-1, 65535, 65536, 0), 65536, []int{2}},
		{ofTypes(-1, 65535, 65536, 0), 0, []int{3}},
		{ofTypes(math.MinInt, math.MaxInt), math.MaxInt, []int{1}},
	} {
		if got := extension.Find(c.l, c.kind); !slices.Equal(got, c.want) {
			t.Errorf("Find of %d is %v, want %v", c.kind, got, c.want)
		}
	}
}

func TestFind(t *testing.T) {
	r := rand.New(rand.NewSource(25))
	for range 300 {
		l := make([]api.Field, r.Intn(100))
		for k := range l {
			l[k] = filled(r.Intn(6), r.Intn(3))
		}
		count := 0
		for kind := range 6 {
			found := extension.Find(l, kind)
			count += len(found)
			for k, place := range found {
				if l[place].Type != kind || k > 0 && found[k-1] >= place {
					t.Fatalf("Find of %d in %v is %v", kind, l, found)
				}
			}
		}
		if count != len(l) {
			t.Fatalf("Find finds %d of %d fields", count, len(l))
		}
	}
}

func checkSame(t *testing.T, a, b []api.Field, want bool) {
	t.Helper()
	if extension.Same(a, b) != want || extension.Same(b, a) != want {
		t.Fatalf("Same of %v and %v is %v, and the other way round %v, want %v", a, b, extension.Same(a, b), extension.Same(b, a), want)
	}
}

func TestKnownSame(t *testing.T) {
	for _, c := range []struct {
		a, b []api.Field
		want bool
	}{
		{nil, nil, true},
		{nil, []api.Field{}, true},
		{nil, []api.Field{{}}, false},
		{[]api.Field{{}}, []api.Field{{}, {}}, false},
		{[]api.Field{{}}, []api.Field{{Data: []byte{}}}, true},
		{[]api.Field{{}}, []api.Field{{Data: []byte{0}}}, false},
		{[]api.Field{{Data: []byte{1}}}, []api.Field{{Data: []byte{1, 0}}}, false},
		{[]api.Field{{Type: 1}}, []api.Field{{Type: 2}}, false},
		{[]api.Field{{Type: 1}}, []api.Field{{Type: 65537}}, false},
		{ofTypes(-1, 65536), ofTypes(-1, 65536), true},
		{ofTypes(1, 2), ofTypes(2, 1), false},
		{[]api.Field{filled(1, 2), filled(1, 3)}, []api.Field{filled(1, 3), filled(1, 2)}, false},
		{[]api.Field{filled(1, 2), filled(1, 3)}, []api.Field{filled(1, 2), filled(1, 3)}, true},
		// The same bytes, of which another field has the last one.
		{[]api.Field{{Data: []byte{1, 2}}, {Data: []byte{3}}}, []api.Field{{Data: []byte{1}}, {Data: []byte{2, 3}}}, false},
	} {
		checkSame(t, c.a, c.b, c.want)
	}
}

// copied is the same list in other memory.
func copied(l []api.Field) []api.Field {
	other := make([]api.Field, 0, len(l)+3)
	for _, f := range l {
		other = append(other, api.Field{Type: f.Type, Data: bytes.Clone(f.Data)})
	}
	return other
}

// A list is the same as its copy, and not as one that is changed at a single place.
func TestSame(t *testing.T) {
	for _, l := range lists() {
		other := copied(l)
		checkSame(t, l, other, true)
		checkSame(t, l, append(other, api.Field{}), false)
		for k := range l {
			checkSame(t, l, other[:k], false)
			other[k].Type ^= 1 << (k % 16)
			checkSame(t, l, other, false)
			other[k].Type = l[k].Type
			other[k].Data = append(other[k].Data, 0)
			checkSame(t, l, other, false)
			other[k].Data = other[k].Data[:len(l[k].Data)]
			if size := len(l[k].Data); size > 0 {
				other[k].Data[size-1] ^= 0x80
				checkSame(t, l, other, false)
				other[k].Data[size-1] ^= 0x80
			}
		}
	}
}
