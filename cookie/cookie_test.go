package cookie_test

import (
	"bytes"
	"encoding/binary"
	"math"
	"math/rand"
	"slices"
	"testing"

	"sectime/api"
	"sectime/cookie"
)

// The bytes were computed by another program, with the HKDF and the AES-SIV of OpenSSL.
func TestKnownCookies(t *testing.T) {
	for _, c := range []struct {
		id, rotations, algo, first int
		want                       string
	}{
		{0, 0, 0, 0xa0, "00000000a0a1a2a3a4a5a6a7a8a9aaabacadaeafb439cb76661bb343480040e1c985764812e1c57c9234cbbe12b20665265b244fb8c28346d7dae5f1b03f4a5e127e357528ffd780b96f160c72efc34e82c66afc3ea20fae1766c62846e2451b43d856b464865a42"},
		{greatest, 0, 15, 1, "ffffffff0102030405060708090a0b0c0d0e0f1071e5eca3c9ae73a6bd676c402616ada29ba6bddc746f4a3771b093a9f224175d05d9d89cc71ca00f909b289f5ab138a79806a417e9e53869403462bec97857f7bc4a5052f11f0abf97b760e5d711e9b9a863a5b1"},
		{0x01020304, 0, 65535, 0xf8, "01020304f8f9fafbfcfdfeff000102030405060720eebdef8fb544e27b397c076c13b2e25ae49b56c43a65254c04016e36c866cfd5278378fa69b5bc5cf0e27bdc89e8237d30c41d138147c44f40129883f110b335c7d85bdae84550b503e6954684624e671378c9"},
		{greatest, 2, 15, 0xa0, "00000001a0a1a2a3a4a5a6a7a8a9aaabacadaeafc7f757625145ae88bf283c3012851a89c44bc7464c2abe22f3de29d3c47c98da537c840fbc6c86c4893de913e765b0f74b78c110d1cbbff8bc7a8850c7810090d0270197dfc1e45c284afa2a3ba9edfac6d11fc4"},
	} {
		r, _ := cookie.Start(c.id, seed())
		for range c.rotations {
			r, _ = cookie.Rotate(r)
		}
		want := unhex(t, c.want)
		b, e := cookie.Make(r, c.algo, pair(), counted(c.first, 16))
		if e != api.OK || !bytes.Equal(b, want) {
			t.Errorf("Make for the ID %d after %d rotations is %x and %v, want %s", c.id, c.rotations, b, e, c.want)
		}
		checkOpen(t, r, want, opened{c.algo, pair(), 0, api.OK})
	}
}

func open(r api.Ring, b []byte) opened {
	algo, p, age, e := cookie.Open(r, b)
	return opened{algo, p, age, e}
}

// checkOpen compares Open with what is wanted, and this with the definition.
func checkOpen(t *testing.T, r api.Ring, b []byte, want opened) {
	t.Helper()
	if standard := standardOpen(t, r, b); !standard.same(want) {
		t.Fatalf("with %v, the definition says that %x has %v in it, and not %v", r, b, standard, want)
	}
	if got := open(r, b); !got.same(want) {
		t.Fatalf("with %v, Open of %x is %v, want %v", r, b, got, want)
	}
}

// Make seals with the first key of any ring, and any ring with this key, at any place, opens it.
func TestMakeAndOpen(t *testing.T) {
	random := rand.New(rand.NewSource(1919))
	for _, r := range rings() {
		for _, algo := range []int{0, 1, 15, 255, 256, 65534, 65535, random.Intn(65536)} {
			p, n := api.Pair{Up: make([]byte, 32), Down: make([]byte, 32)}, make([]byte, 16)
			for _, b := range [][]byte{p.Up, p.Down, n} {
				random.Read(b)
			}
			b, e := cookie.Make(r, algo, p, n)
			if want := standardMake(t, r.Keys[0], algo, p, n); e != api.OK || len(b) != 104 || !bytes.Equal(b, want) {
				t.Fatalf("with %v, Make is %x and %v, want %x", r, b, e, want)
			}
			for age := range r.Keys {
				s := cloned(r)
				s.Keys[0], s.Keys[age] = s.Keys[age], s.Keys[0]
				checkOpen(t, s, b, opened{algo, p, age, api.OK})
			}
			if id, e := cookie.ID(b); e != api.OK || id != r.Keys[0].ID {
				t.Fatalf("ID of %x is %d and %v, want %d", b, id, e, r.Keys[0].ID)
			}
		}
	}
}

// The same arguments make the same cookie, and others make another one.
func TestMakeOfOtherArguments(t *testing.T) {
	seen := map[string]int{}
	for k, c := range []struct {
		r    api.Ring
		algo int
		p    api.Pair
		n    []byte
	}{
		{ring(5), 15, pair(), nonce()},
		{ring(6), 15, pair(), nonce()},
		{api.Ring{Keys: []api.Master{{ID: 5, Key: seed()}}}, 15, pair(), nonce()},
		{ring(5), 14, pair(), nonce()},
		{ring(5), 15, api.Pair{Up: pair().Down, Down: pair().Up}, nonce()},
		{ring(5), 15, api.Pair{Up: pair().Up, Down: pair().Up}, nonce()},
		{ring(5), 15, pair(), counted(0xa1, 16)},
	} {
		b, e := cookie.Make(c.r, c.algo, c.p, c.n)
		if again, _ := cookie.Make(cloned(c.r), c.algo, c.p, c.n); e != api.OK || !bytes.Equal(again, b) {
			t.Errorf("case %d: Make is %x and %v, and then %x", k, b, e, again)
		}
		if other, ok := seen[string(b[4:])]; ok {
			t.Errorf("cases %d and %d have the same bytes behind the ID", other, k)
		}
		seen[string(b[4:])] = k
	}
	// Only the first key has a part in it.
	a, _ := cookie.Make(ring(5), 15, pair(), nonce())
	if b, _ := cookie.Make(ring(5, 4, 3), 15, pair(), nonce()); !bytes.Equal(a, b) {
		t.Errorf("Make is %x, and %x with more keys", a, b)
	}
}

// All errors of Make, with every set of arguments that have one.
func TestMakeErrors(t *testing.T) {
	bad, long := ring(5, 5), counted(1, 33)
	for _, r := range []api.Ring{ring(5), ring(5, 4, 3, 2), {}, bad, ring(-1), ring(1 << 32), ring(4, 3, 2, 1, 0)} {
		for _, algo := range []int{0, 15, 65535, -1, 65536, math.MinInt, math.MaxInt} {
			for _, p := range []api.Pair{pair(), {}, {Up: pair().Up}, {Down: pair().Down}, {Up: pair().Up[1:], Down: pair().Down}, {Up: pair().Up, Down: long}, {Up: long[:31], Down: long}} {
				for _, n := range [][]byte{nonce(), nil, {}, nonce()[1:], counted(0, 17), counted(0, 32)} {
					want := api.OK
					switch {
					case !standardValid(r):
						want = api.ErrForm
					case algo < 0 || algo > 65535:
						want = api.ErrRange
					case len(p.Up) != 32 || len(p.Down) != 32:
						want = api.ErrKey
					case len(n) != 16:
						want = api.ErrForm
					}
					if b, e := cookie.Make(r, algo, p, n); e != want || e != api.OK && len(b) != 0 {
						t.Errorf("Make of %v, %d, %v and %x is %x and %v, want %v", r, algo, p, n, b, e, want)
					}
				}
			}
		}
	}
}

// Lengths of the keys and of the nonce, one by one.
func TestMakeOfAllLengths(t *testing.T) {
	for size := range 70 {
		wrong := func(fits bool, want api.Errno) api.Errno {
			if fits {
				return api.OK
			}
			return want
		}
		some := counted(1, size)
		_, up := cookie.Make(ring(5), 1, api.Pair{Up: some, Down: pair().Down}, nonce())
		_, down := cookie.Make(ring(5), 1, api.Pair{Up: pair().Up, Down: some}, nonce())
		_, n := cookie.Make(ring(5), 1, pair(), some)
		if key := wrong(size == 32, api.ErrKey); up != key || down != key || n != wrong(size == 16, api.ErrForm) {
			t.Errorf("Make with %d bytes as a key up, a key down and a nonce: %v, %v and %v", size, up, down, n)
		}
	}
}

func TestOpenErrors(t *testing.T) {
	good := standardMake(t, ring(5).Keys[0], 15, pair(), nonce())
	unknown := standardMake(t, ring(6).Keys[0], 15, pair(), nonce())
	changed := bytes.Clone(good)
	changed[103] ^= 1
	for k, c := range []struct {
		r    api.Ring
		b    []byte
		want api.Errno
	}{
		{api.Ring{}, good, api.ErrForm},
		{ring(5, 5), good, api.ErrForm},
		{ring(5, 4, 3, 2, 1), good, api.ErrForm},
		{ring(5, -1), good, api.ErrForm},
		{ring(5, 1<<32), good, api.ErrForm},
		{api.Ring{Keys: []api.Master{ring(5).Keys[0], {ID: 4, Key: counted(1, 31)}}}, good, api.ErrForm},
		{api.Ring{}, unknown[1:], api.ErrForm},
		{ring(5), nil, api.ErrForm},
		{ring(5), good[:103], api.ErrForm},
		{ring(5), unknown[:103], api.ErrForm},
		{ring(5), append(bytes.Clone(good), 0), api.ErrForm},
		{ring(5), make([]byte, 70000), api.ErrForm},
		{ring(5), unknown, api.ErrKey},
		{ring(4, 3, 2, 1), good, api.ErrKey},
		{ring(4), changed, api.ErrKey},
		{ring(5), make([]byte, 104), api.ErrKey},
		{ring(0), make([]byte, 104), api.ErrAuth},
		{ring(5), changed, api.ErrAuth},
		// Another key with the same ID.
		{api.Ring{Keys: []api.Master{{ID: 5, Key: seed()}}}, good, api.ErrAuth},
		// The key that sealed it is there, but has another ID.
		{api.Ring{Keys: []api.Master{{ID: 5, Key: seed()}, {ID: 6, Key: ring(5).Keys[0].Key}}}, good, api.ErrAuth},
		{api.Ring{Keys: []api.Master{{ID: 6, Key: ring(5).Keys[0].Key}}}, good, api.ErrKey},
		// The same low 16 bits of an ID are not enough.
		{ring(5 + 1<<16), good, api.ErrKey},
	} {
		if got := open(c.r, c.b); !got.same(opened{e: c.want}) {
			t.Errorf("Open, case %d: %v, want %v", k, got, c.want)
		}
		checkOpen(t, c.r, c.b, opened{e: c.want})
	}
	checkOpen(t, ring(5), good, opened{15, pair(), 0, api.OK})
}

// Cookies of each length, of which only one is right.
func TestLengthsOfCookies(t *testing.T) {
	good := standardMake(t, ring(5).Keys[0], 15, pair(), nonce())
	room := append(bytes.Clone(good), counted(1, 200)...)
	for size := range len(room) {
		id, e := cookie.ID(room[:size])
		if size == 104 {
			checkOpen(t, ring(5), room[:size], opened{15, pair(), 0, api.OK})
			if id != 5 || e != api.OK {
				t.Errorf("ID is %d and %v, want 5", id, e)
			}
			continue
		}
		checkOpen(t, ring(5), room[:size], opened{e: api.ErrForm})
		if id != 0 || e != api.ErrForm {
			t.Errorf("ID of %d bytes is %d and %v, want ErrForm", size, id, e)
		}
	}
}

// ID is only what the first bytes say, whatever the others are.
func TestID(t *testing.T) {
	for _, id := range []int{0, 1, 255, 256, 1 << 16, 1 << 24, 0x01020304, 1<<31 - 1, 1 << 31, greatest - 1, greatest} {
		for _, rest := range [][]byte{make([]byte, 100), counted(9, 100)} {
			b := append(binary.BigEndian.AppendUint32(nil, uint32(id)), rest...)
			if got, e := cookie.ID(b); e != api.OK || got != id {
				t.Errorf("ID of %x is %d and %v, want %d", b, got, e, id)
			}
		}
	}
}

// Every bit of a cookie, with rings that have, and that have not, the key of the ID that is then in it.
func TestEachChangedBit(t *testing.T) {
	r := ring(5)
	good := standardMake(t, r.Keys[0], 15, pair(), nonce())
	for k := range 8 * len(good) {
		bad := bytes.Clone(good)
		bad[k/8] ^= 1 << (k % 8)
		want := opened{e: api.ErrAuth}
		if k < 32 {
			checkOpen(t, api.Ring{Keys: []api.Master{r.Keys[0], {ID: int(binary.BigEndian.Uint32(bad)), Key: r.Keys[0].Key}}}, bad, want)
			want.e = api.ErrKey
		}
		checkOpen(t, r, bad, want)
	}
	for k := range 8 * 32 {
		other := cloned(r)
		other.Keys[0].Key[k/8] ^= 1 << (k % 8)
		checkOpen(t, other, good, opened{e: api.ErrAuth})
	}
}

// Parts of two cookies of one key do not open together.
func TestPartsOfTwoCookies(t *testing.T) {
	m := ring(5).Keys[0]
	a := standardMake(t, m, 15, pair(), nonce())
	b := standardMake(t, m, 15, api.Pair{Up: pair().Down, Down: pair().Up}, counted(1, 16))
	for k := 5; k < 104; k++ {
		if !bytes.Equal(a[k:], b[k:]) {
			checkOpen(t, ring(5), slices.Concat(a[:k], b[k:]), opened{e: api.ErrAuth})
		}
	}
}

// Somebody with the key seals two bytes that are not zeros, or seals for other data.
func TestCookiesThatMakeDoesNotReturn(t *testing.T) {
	m := ring(5).Keys[0]
	keys := slices.Concat(pair().Up, pair().Down)
	for k := range 256 {
		for _, two := range [][]byte{{byte(k), 0}, {0, byte(k)}, {byte(k), byte(k)}, {byte(k), byte(-k)}} {
			want := opened{e: api.ErrAuth}
			if k == 0 {
				want = opened{15, pair(), 0, api.OK}
			}
			checkOpen(t, ring(5), sealed(t, m, nonce(), slices.Concat([]byte{0, 15}, two, keys)), want)
		}
	}
	right := sealed(t, m, nonce(), slices.Concat([]byte{0, 15, 0, 0}, keys))
	other := sealed(t, api.Master{ID: 6, Key: m.Key}, nonce(), slices.Concat([]byte{0, 15, 0, 0}, keys))
	checkOpen(t, ring(5), slices.Concat(right[:4], other[4:]), opened{e: api.ErrAuth})
	// Other numbers of plain bytes lead to other lengths.
	for size := range 100 {
		if size != 64 {
			checkOpen(t, ring(5), sealed(t, m, nonce(), slices.Concat([]byte{0, 15, 0, 0}, counted(1, size))), opened{e: api.ErrForm})
		}
	}
}

// A cookie is opened for three rotations, by every server with the same ring; with the fourth one its key is gone.
func TestAges(t *testing.T) {
	for _, r := range rings() {
		b, e := cookie.Make(r, 15, pair(), nonce())
		if e != api.OK {
			t.Fatalf("with %v, Make returns %v", r, e)
		}
		for age := range 7 {
			want := opened{15, pair(), age, api.OK}
			if age >= 4 {
				want = opened{e: api.ErrKey}
			}
			checkOpen(t, r, b, want)
			checkOpen(t, cloned(r), b, want)
			next, e := cookie.Rotate(r)
			if e != api.OK {
				break // the next ID is still that of an older key
			}
			r = next
		}
	}
}

// The oldest key of a full ring is gone with the first rotation, and that of one with a free place is not.
func TestOldestKey(t *testing.T) {
	for size := 1; size <= 4; size++ {
		r := ring([]int{9, 7, 5, 3}[:size]...)
		b := standardMake(t, r.Keys[size-1], 15, pair(), nonce())
		checkOpen(t, r, b, opened{15, pair(), size - 1, api.OK})
		for age := size; age <= 4; age++ {
			r, _ = cookie.Rotate(r)
			want := opened{15, pair(), age, api.OK}
			if age == 4 {
				want = opened{e: api.ErrKey}
			}
			checkOpen(t, r, b, want)
		}
	}
}

// The ID of the oldest key of a full ring may be that of the next one, which does not open what the oldest one sealed.
func TestIDThatComesBack(t *testing.T) {
	r := ring(5, 3, 2, 6)
	b := standardMake(t, r.Keys[3], 15, pair(), nonce())
	checkOpen(t, r, b, opened{15, pair(), 3, api.OK})
	next, e := cookie.Rotate(r)
	if e != api.OK || next.Keys[0].ID != 6 {
		t.Fatalf("Rotate is %v and %v", next, e)
	}
	checkOpen(t, next, b, opened{e: api.ErrAuth})
}
