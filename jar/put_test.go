package jar_test

import (
	"math"
	"math/rand"
	"slices"
	"testing"

	"sectime/api"
	"sectime/jar"
)

func TestPut(t *testing.T) {
	for _, c := range []struct{ have, numbers, want []int }{
		{nil, nil, nil},
		{nil, []int{1}, []int{1}},
		{[]int{6}, nil, []int{6}},
		{[]int{6}, []int{7, 8}, []int{6, 7, 8}},
		{[]int{6}, []int{8, 7}, []int{6, 8, 7}},
		{[]int{6}, []int{6}, []int{6}},
		{[]int{6}, []int{7, 6, 99, 8, 7}, []int{6, 7, 8}},
		{[]int{6}, []int{99}, []int{6}},
		{nil, []int{99, 99}, nil},
		{nil, []int{5, 5, 5}, []int{5}},
		{[]int{6}, []int{11, 12, 13, 14, 15, 16, 17, 18, 19}, []int{6, 11, 12, 13, 14, 15, 16, 17}},
		// What is left out takes no room.
		{[]int{6}, []int{6, 99, 6, 99, 11, 11, 11, 12, 13, 14, 15, 16, 17, 18}, []int{6, 11, 12, 13, 14, 15, 16, 17}},
		{to(7), []int{7, 20, 21}, []int{1, 2, 3, 4, 5, 6, 7, 20}},
		{to(8), []int{20}, to(8)},
		{to(8), to(8), to(8)},
		{nil, to(300), to(8)},
	} {
		j, want := some(c.have...), some(c.want...)
		if next, e := jar.Put(j, cookies(c.numbers...)); e != api.OK || !sameJar(next, want) {
			t.Errorf("Put of %v to %v is %v and %v, want the cookies %v", c.numbers, c.have, next, e, c.want)
		}
		checkPut(t, j, cookies(c.numbers...))
	}
}

// Without a last cookie, all numbers are new.
func TestPutWithoutLast(t *testing.T) {
	j := some(6)
	j.Last = nil
	want := some(6, 99)
	want.Last = nil
	if next, e := jar.Put(j, cookies(99)); e != api.OK || !sameJar(next, want) {
		t.Errorf("Put is %v and %v, want %v", next, e, want)
	}
}

// A cookie of another length is an error wherever it stands, also where it would be left out for lack of room.
func TestPutErrors(t *testing.T) {
	for _, have := range []int{0, 3, 8} {
		for size := range 220 {
			for place := range 12 {
				l := cookies(50, 51, 52, 53, 54, 55, 56, 57, 58, 59, 60, 61)
				l[place] = counted(1, size)
				want := api.ErrForm
				if size == 104 {
					want = api.OK
				}
				if _, e := checkPut(t, some(to(have)...), l); e != want {
					t.Fatalf("Put with %d bytes at %d returns %v, want %v", size, place, e, want)
				}
			}
		}
	}
}

func TestPutOfRandomCookies(t *testing.T) {
	r := rand.New(rand.NewSource(24))
	good, bad, full := 0, 0, 0
	for range 20000 {
		next, e := checkPut(t, randomJar(r), randomCookies(r))
		switch {
		case e != api.OK:
			bad++
		case len(next.Cookies) == 8:
			full++
		default:
			good++
		}
	}
	if good < 1000 || bad < 1000 || full < 1000 {
		t.Errorf("%d jars have room behind Put, %d are full, and %d times there was an error", good, full, bad)
	}
}

func TestPutOfManyCookies(t *testing.T) {
	l := slices.Repeat(cookies(99, 1, 2), 200000)
	if next, e := jar.Put(some(1), l); e != api.OK || !sameJar(next, some(1, 2)) {
		t.Errorf("Put of many cookies is %v and %v", next, e)
	}
	if next, e := jar.Put(some(1), append(l, nil)); e != api.ErrForm || !sameJar(next, api.Jar{}) {
		t.Errorf("Put of many cookies and a bad one is %v and %v", next, e)
	}
}

func TestMove(t *testing.T) {
	j := some(1, 2)
	for _, network := range []int{0, 1, 2, 4, math.MaxInt} {
		want := some(1, 2)
		want.Network, want.Last = network, nil
		if next, e := jar.Move(j, network); e != api.OK || !sameJar(next, want) {
			t.Errorf("Move to %d is %v and %v, want %v", network, next, e, want)
		}
	}
	if next, e := jar.Move(j, 3); e != api.OK || !sameJar(next, j) {
		t.Errorf("Move to the same network is %v and %v, want %v", next, e, j)
	}
	for _, network := range []int{-1, -3, math.MinInt} {
		if next, e := jar.Move(j, network); e != api.ErrRange || !sameJar(next, api.Jar{}) {
			t.Errorf("Move to %d is %v and %v", network, next, e)
		}
	}
}

// Behind a Move the last cookie is gone for good, also in the network where it was sent.
func TestMoveAndBack(t *testing.T) {
	there, _ := jar.Move(some(1, 2), 4)
	back, _ := jar.Move(there, 3)
	for _, j := range []api.Jar{there, back} {
		if b, e := jar.Again(j); e != api.ErrNone || len(b) != 0 {
			t.Errorf("Again behind a Move is %x and %v", b, e)
		}
		next, b, e := jar.Take(j)
		if e != api.OK || !slices.Equal(b, numbered(1)) || next.Sent != 6 {
			t.Errorf("Take behind a Move is %v, %x and %v", next, b, e)
		}
	}
	want := some(1, 2)
	want.Last = nil
	if !sameJar(back, want) {
		t.Errorf("Move there and back is %v, want %v", back, want)
	}
}
