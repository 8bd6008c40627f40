package protect_test

import (
	"math"
	"slices"
	"testing"

	"sectime/api"
	"sectime/packet"
	"sectime/protect"
)

func sizesOf(l []api.Field) []int {
	var sizes []int
	for _, f := range l {
		sizes = append(sizes, len(f.Data))
	}
	return sizes
}

// checkLength holds Length against Protect of fields with so many bytes, none of which is too many for it.
func checkLength(t *testing.T, plain, secret []int) {
	t.Helper()
	b, wanted := protect.Protect(key(), api.Packet{Head: packet.Ask(1), Plain: fields(1, plain...), Secret: fields(1, secret...)}, filled(2, 16))
	if n, e := protect.Length(plain, secret); n != len(b) || e != wanted {
		t.Fatalf("Length of %v and %v is %d and %v, want %d and %v", plain, secret, n, e, len(b), wanted)
	}
}

func TestLength(t *testing.T) {
	for _, p := range packets() {
		checkLength(t, sizesOf(p.Plain), sizesOf(p.Secret))
	}
	for size := 0; size <= 1280; size++ {
		checkLength(t, []int{size}, nil)
		checkLength(t, nil, []int{size})
		checkLength(t, []int{size / 2, 3}, []int{7, size - size/2, 100})
		checkLength(t, []int{size}, []int{1280 - size})
	}
}

// A question and an answer are equally long, whatever the number of cookies.
func TestQuestionsAndAnswers(t *testing.T) {
	for more := range 9 {
		question := slices.Concat([]int{32, 104}, slices.Repeat([]int{104}, more))
		asked, e := protect.Length(question, nil)
		answered, f := protect.Length([]int{32}, slices.Repeat([]int{104}, more+1))
		if want := 232 + 108*more; e != api.OK || f != api.OK || asked != want || answered != want {
			t.Errorf("with %d placeholders the question has %d bytes and %v, the answer %d and %v, want %d", more, asked, e, answered, f, want)
		}
		checkLength(t, question, nil)
		checkLength(t, []int{32}, slices.Repeat([]int{104}, more+1))
	}
}

func TestLengthErrors(t *testing.T) {
	for k, c := range []struct {
		plain, secret []int
		want          int
		e             api.Errno
	}{
		{nil, nil, 88, api.OK},
		{[]int{}, []int{}, 88, api.OK},
		{[]int{0}, []int{0}, 120, api.OK},
		{[]int{12}, []int{13}, 124, api.OK},
		{[]int{-1}, nil, 0, api.ErrRange},
		{nil, []int{-1}, 0, api.ErrRange},
		{[]int{1281}, nil, 0, api.ErrRange},
		{nil, []int{1281}, 0, api.ErrRange},
		{[]int{math.MinInt}, nil, 0, api.ErrRange},
		{nil, []int{math.MaxInt}, 0, api.ErrRange},
		{[]int{1280}, nil, 0, api.ErrLong},
		{nil, []int{1280}, 0, api.ErrLong},
		// All numbers are looked at before what they are together.
		{[]int{1280, -1}, nil, 0, api.ErrRange},
		{[]int{1280, 1280, 1280}, []int{1280, 1281}, 0, api.ErrRange},
		{slices.Repeat([]int{1280}, 1000), slices.Repeat([]int{1280}, 1000), 0, api.ErrLong},
		{[]int{1188}, nil, 1280, api.OK},
		{[]int{1189}, nil, 0, api.ErrLong},
		{nil, []int{1188}, 1280, api.OK},
		{nil, []int{1189}, 0, api.ErrLong},
		{[]int{1172}, []int{0}, 1280, api.OK},
		{[]int{1172}, []int{13}, 0, api.ErrLong},
		{[]int{1173}, []int{0}, 0, api.ErrLong},
		{[]int{1228}, nil, 0, api.ErrLong},
		{nil, []int{1228}, 0, api.ErrLong},
		{make([]int, 74), nil, 88 + 74*16, api.OK},
		{make([]int, 75), nil, 0, api.ErrLong},
		{nil, make([]int, 74), 88 + 74*16, api.OK},
		{nil, make([]int, 75), 0, api.ErrLong},
		// It is the bytes that have a limit here, not the number of fields.
		{make([]int, 25), make([]int, 25), 88 + 50*16, api.OK},
		{make([]int, 100000), nil, 0, api.ErrLong},
	} {
		if n, e := protect.Length(c.plain, c.secret); n != c.want || e != c.e {
			t.Errorf("case %d: Length is %d and %v, want %d and %v", k, n, e, c.want, c.e)
		}
	}
}
