package jar_test

import (
	"bytes"
	"math"
	"math/rand"
	"testing"

	"sectime/api"
	"sectime/jar"
)

func TestTake(t *testing.T) {
	j := api.Jar{Keys: pair(), Cookies: cookies(5, 6), Network: 3}
	for k, want := range []api.Jar{
		{Keys: pair(), Cookies: cookies(6), Last: numbered(5), Network: 3, Sent: 1},
		{Keys: pair(), Last: numbered(6), Network: 3, Sent: 2},
	} {
		next, b, e := jar.Take(j)
		if e != api.OK || !sameJar(next, want) || !bytes.Equal(b, numbered(5+k)) {
			t.Fatalf("Take of %v is %v, %x and %v, want %v", j, next, b, e, want)
		}
		j = next
	}
	if next, b, e := jar.Take(j); e != api.ErrNone || !sameJar(next, api.Jar{}) || len(b) != 0 {
		t.Errorf("Take without a cookie is %v, %x and %v", next, b, e)
	}
}

func TestAllJars(t *testing.T) {
	for _, j := range jars() {
		checkTake(t, j)
		checkAgain(t, j)
		checkWant(t, j)
		for _, network := range []int{0, 1, 2, 3, math.MaxInt, -1, math.MinInt} {
			checkMove(t, j, network)
		}
		for _, l := range [][][]byte{nil, cookies(1, 50, 99, 50, 51), cookies(to(20)...), {numbered(50), nil}} {
			checkPut(t, j, l)
		}
	}
}

func TestTakeErrors(t *testing.T) {
	full := some(1)
	full.Sent = mostSent
	spent := some()
	spent.Sent = mostSent
	almost := some(1)
	almost.Sent = mostSent - 1
	bad := some()
	bad.Sent, bad.Keys.Down = mostSent, nil
	for k, c := range []struct {
		j    api.Jar
		want api.Errno
	}{{full, api.ErrState}, {spent, api.ErrNone}, {some(), api.ErrNone}, {almost, api.OK}, {bad, api.ErrForm}, {api.Jar{}, api.ErrForm}} {
		if _, _, e := checkTake(t, c.j); e != c.want {
			t.Errorf("Take, case %d: %v, want %v", k, e, c.want)
		}
	}
}

func TestAgain(t *testing.T) {
	if b, e := jar.Again(some(1)); e != api.OK || !bytes.Equal(b, numbered(99)) {
		t.Errorf("Again is %x and %v", b, e)
	}
	for _, last := range [][]byte{nil, {}} {
		j := some(1)
		j.Last = last
		if b, e := jar.Again(j); e != api.ErrNone || len(b) != 0 {
			t.Errorf("Again without a last cookie is %x and %v", b, e)
		}
	}
	// What was taken is what is taken again, as often as one likes.
	j := some(1, 2, 3)
	for range 3 {
		next, b, _ := jar.Take(j)
		for range 3 {
			if again, e := jar.Again(next); e != api.OK || !bytes.Equal(again, b) {
				t.Errorf("Again is %x and %v, want %x", again, e, b)
			}
		}
		j = next
	}
}

func TestWant(t *testing.T) {
	for count := range 9 {
		if n, e := jar.Want(some(to(count)...)); e != api.OK || n != 8-count {
			t.Errorf("Want of %d cookies is %d and %v", count, n, e)
		}
	}
}

// No cookie is taken twice, and they are taken in the order in which they came.
func TestTakeInOrder(t *testing.T) {
	r := rand.New(rand.NewSource(23))
	j, e := jar.New(api.Terms{Keys: pair(), Cookies: cookies(0, 1, 2)}, 4)
	if e != api.OK {
		t.Fatal(e)
	}
	taken, put := 0, 3
	for taken < 500 {
		if len(j.Cookies) == 0 || r.Intn(3) == 0 {
			want, _ := jar.Want(j)
			l := cookies(put-1, put, put+1, put-1, put+2, put)
			put += min(want, 3)
			j, _ = checkPut(t, j, l)
			continue
		}
		next, b, _ := checkTake(t, j)
		if !bytes.Equal(b, numbered(taken)) {
			t.Fatalf("take %d is %x, want %x", taken, b, numbered(taken))
		}
		taken++
		j = next
		if j.Sent != taken {
			t.Fatalf("behind take %d, Sent is %d", taken, j.Sent)
		}
		if r.Intn(9) == 0 && len(j.Cookies) > 0 {
			// The newest cookie is still in the jar, so that no old one comes back behind this.
			j, _ = checkMove(t, j, r.Intn(5))
		}
	}
}
