package jar_test

import (
	"math"
	"math/rand"
	"testing"

	"sectime/api"
	"sectime/jar"
)

func TestValid(t *testing.T) {
	for _, j := range jars() {
		if !jar.Valid(j) {
			t.Errorf("%v is not valid", j)
		}
		checkValid(t, j)
	}
	for _, j := range badJars() {
		if jar.Valid(j) {
			t.Errorf("%v is valid", j)
		}
		checkValid(t, j)
	}
}

// Every length of what has one.
func TestValidOfLengths(t *testing.T) {
	for size := range 220 {
		for k, change := range []func(j *api.Jar){
			func(j *api.Jar) { j.Keys.Up = counted(1, size) },
			func(j *api.Jar) { j.Keys.Down = counted(1, size) },
			func(j *api.Jar) { j.Cookies[0] = counted(1, size) },
			func(j *api.Jar) { j.Cookies[2] = counted(1, size) },
			func(j *api.Jar) { j.Last = counted(1, size) },
		} {
			j := some(1, 2, 3)
			change(&j)
			want := size == []int{32, 32, 104, 104, 104}[k] || k == 4 && size == 0
			if jar.Valid(j) != want {
				t.Errorf("case %d with %d bytes: Valid is %v", k, size, !want)
			}
		}
	}
}

// Cookies are different as soon as one byte is, whichever it is.
func TestValidOfSimilarCookies(t *testing.T) {
	for place := range 104 {
		other := numbered(1)
		other[place] ^= 1
		for _, j := range []api.Jar{
			{Keys: pair(), Cookies: [][]byte{numbered(1), other}},
			{Keys: pair(), Cookies: [][]byte{other}, Last: numbered(1)},
		} {
			if !jar.Valid(j) {
				t.Errorf("with another byte at %d, %v is not valid", place, j)
			}
		}
	}
	// Equal keys, and bytes of 0, are as good as others.
	same := counted(1, 32)
	if !jar.Valid(api.Jar{Keys: api.Pair{Up: same, Down: same}, Cookies: [][]byte{make([]byte, 104)}}) {
		t.Error("a jar with equal keys and a cookie of zeros is not valid")
	}
}

func TestValidOfRandomJars(t *testing.T) {
	r := rand.New(rand.NewSource(22))
	valid := 0
	for range 20000 {
		if checkValid(t, randomJar(r)) {
			valid++
		}
	}
	if valid < 5000 || valid > 19000 {
		t.Errorf("%d of 20000 jars are valid", valid)
	}
}

func TestNew(t *testing.T) {
	for _, c := range []struct{ numbers, want []int }{
		{[]int{5}, []int{5}},
		{[]int{5, 6, 7}, []int{5, 6, 7}},
		{[]int{7, 5, 6}, []int{7, 5, 6}},
		{[]int{5, 5}, []int{5}},
		{[]int{5, 6, 5, 7, 6}, []int{5, 6, 7}},
		{[]int{1, 2, 3, 4, 5, 6, 7, 8}, []int{1, 2, 3, 4, 5, 6, 7, 8}},
		{[]int{1, 1, 1, 1, 1, 1, 1, 1}, []int{1}},
		{[]int{1, 2, 3, 4, 5, 6, 7, 1}, []int{1, 2, 3, 4, 5, 6, 7}},
	} {
		for _, network := range []int{0, 1, 77, math.MaxInt} {
			// The rest of the terms does not show in the jar.
			terms := api.Terms{Protocol: 9, Algo: -3, Keys: pair(), Cookies: cookies(c.numbers...), Host: "host", Port: 77}
			want := api.Jar{Keys: pair(), Cookies: cookies(c.want...), Network: network}
			if j, e := jar.New(terms, network); e != api.OK || !sameJar(j, want) {
				t.Errorf("New with the cookies %v is %v and %v, want %v", c.numbers, j, e, want)
			}
			checkNew(t, terms, network)
		}
	}
}

func TestNewErrors(t *testing.T) {
	nine := cookies(1, 2, 3, 4, 5, 6, 7, 8, 9)
	for k, c := range []struct {
		up, down, network int
		cookies           [][]byte
		want              api.Errno
	}{
		{31, 32, -1, [][]byte{nil}, api.ErrKey},
		{33, 32, 0, cookies(1), api.ErrKey},
		{32, 31, -1, nil, api.ErrKey},
		{32, 0, 0, nine, api.ErrKey},
		{0, 0, -1, nil, api.ErrKey},
		{32, 32, -1, [][]byte{nil}, api.ErrRange},
		{32, 32, math.MinInt, nine, api.ErrRange},
		{32, 32, -1, nil, api.ErrRange},
		{32, 32, 0, append(cookies(to(9)...), counted(1, 103)), api.ErrForm},
		{32, 32, 0, [][]byte{nil}, api.ErrForm},
		{32, 32, 0, [][]byte{numbered(1), counted(1, 105)}, api.ErrForm},
		{32, 32, 0, nine, api.ErrLimit},
		// Each of them counts, although there would be room for those that differ.
		{32, 32, 0, cookies(1, 1, 1, 1, 1, 1, 1, 1, 1), api.ErrLimit},
		{32, 32, 0, nil, api.ErrNone},
		{32, 32, 0, [][]byte{}, api.ErrNone},
		{32, 32, 0, nine[:8], api.OK},
	} {
		terms := api.Terms{Keys: api.Pair{Up: counted(1, c.up), Down: counted(2, c.down)}, Cookies: c.cookies}
		if _, e := checkNew(t, terms, c.network); e != c.want {
			t.Errorf("New, case %d: %v, want %v", k, e, c.want)
		}
	}
	for size := range 220 {
		checkNew(t, api.Terms{Keys: api.Pair{Up: counted(1, size), Down: counted(2, 32)}, Cookies: cookies(1)}, 0)
		checkNew(t, api.Terms{Keys: api.Pair{Up: counted(1, 32), Down: counted(2, size)}, Cookies: cookies(1)}, 0)
		checkNew(t, api.Terms{Keys: pair(), Cookies: [][]byte{numbered(1), counted(2, size), numbered(3)}}, 0)
		checkNew(t, api.Terms{Keys: pair(), Cookies: cookies(to(size)...)}, 0)
	}
}

// No function but Valid and New takes a jar that is not valid, whatever else it gets.
func TestBadJars(t *testing.T) {
	for _, j := range badJars() {
		checkTake(t, j)
		checkAgain(t, j)
		checkWant(t, j)
		for _, l := range [][][]byte{nil, cookies(50), {nil}} {
			if _, e := checkPut(t, j, l); e != api.ErrForm {
				t.Fatalf("Put of %v returns %v", j, e)
			}
		}
		for _, network := range []int{-1, 0, 3} {
			if _, e := checkMove(t, j, network); e != api.ErrForm {
				t.Fatalf("Move of %v to %d returns %v", j, network, e)
			}
		}
		for _, id := range [][]byte{nil, unique()} {
			if _, _, e := checkQuestion(t, j, 1, id, nonce()); e != api.ErrForm {
				t.Fatalf("Question of %v returns %v", j, e)
			}
			for _, b := range [][]byte{nil, answerOf(t, answer(numbered(50)))} {
				if _, _, e := checkAnswer(t, j, id, b); e != api.ErrForm {
					t.Fatalf("Answer of %v returns %v", j, e)
				}
			}
		}
	}
}
