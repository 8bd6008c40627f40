package establish_test

import (
	"bytes"
	"math"
	"math/rand"
	"slices"
	"testing"

	"sectime/api"
	"sectime/establish"
)

// checkRequest compares Request with the definition.
func checkRequest(t *testing.T, protocols, algos []int, wanted api.Errno) []byte {
	t.Helper()
	b, e := establish.Request(protocols, algos)
	want, f := standardRequest(protocols, algos)
	if e != f || e != wanted || !bytes.Equal(b, want) {
		t.Fatalf("Request of %v and %v is %x and %v, want %x and %v", protocols, algos, b, e, want, wanted)
	}
	return b
}

func TestKnownRequests(t *testing.T) {
	for _, c := range []struct {
		protocols, algos []int
		want             string
	}{
		{[]int{api.ProtocolTime}, []int{api.AlgoSiv}, "80010002000080040002000f80000000"},
		{[]int{0, 9}, []int{15}, "80010004000000098004" + "0002000f80000000"},
		{[]int{65535, 0}, []int{258, 1, 256}, "80010004ffff0000" + "80040006010200010100" + "80000000"},
		{[]int{5, 5}, []int{5}, "8001000400050005" + "800400020005" + "80000000"},
	} {
		if b, e := establish.Request(c.protocols, c.algos); e != api.OK || hexOf(b) != c.want {
			t.Errorf("Request of %v and %v is %x and %v, want %s", c.protocols, c.algos, b, e, c.want)
		}
	}
}

// All lengths of both lists, without and with a number that is out of its range.
func TestRequest(t *testing.T) {
	random := rand.New(rand.NewSource(2101))
	for n := range 20 {
		for m := range 20 {
			protocols, algos := make([]int, n), make([]int, m)
			for _, l := range [][]int{protocols, algos} {
				for k := range l {
					l[k] = random.Intn(65536)
				}
			}
			want := api.OK
			if n == 0 || m == 0 || n > 16 || m > 16 {
				want = api.ErrLimit
			}
			checkRequest(t, protocols, algos, want)
			for _, bad := range []int{-1, 65536, 65536 + 15, -65536, 1 << 32, math.MinInt, math.MaxInt} {
				for _, l := range [][]int{protocols, algos} {
					if len(l) > 0 {
						k := random.Intn(len(l))
						good := l[k]
						l[k] = bad
						checkRequest(t, protocols, algos, api.ErrRange)
						l[k] = good
					}
				}
			}
		}
	}
	checkRequest(t, make([]int, 100000), []int{1}, api.ErrLimit)
	checkRequest(t, []int{65536}, make([]int, 100000), api.ErrRange)
	checkRequest(t, nil, []int{-1}, api.ErrRange)
	checkRequest(t, []int{}, []int{}, api.ErrLimit)
}

// The bounds of a number, at every place of both lists.
func TestRequestOfBounds(t *testing.T) {
	for k := range 16 {
		for _, n := range []int{0, 1, 255, 256, 32767, 32768, 65534, 65535, 65536, -1} {
			want := api.OK
			if n < 0 || n > 65535 {
				want = api.ErrRange
			}
			l := slices.Repeat([]int{7}, 16)
			l[k] = n
			checkRequest(t, l, []int{1}, want)
			checkRequest(t, []int{1}, l, want)
		}
	}
}

func TestChoose(t *testing.T) {
	var lists [][]int
	some := []int{0, 1, 65535}
	lists = append(lists, nil, []int{})
	for _, a := range some {
		lists = append(lists, []int{a})
		for _, b := range some {
			lists = append(lists, []int{a, b})
			for _, c := range some {
				lists = append(lists, []int{a, b, c})
			}
		}
	}
	lists = append(lists, []int{-1, 0}, []int{math.MinInt, 1, -1}, []int{65536, math.MaxInt}, []int{math.MaxInt}, []int{1 << 32})
	for _, offered := range lists {
		for _, supported := range lists {
			n, ok := establish.Choose(offered, supported)
			want, found := 0, false
			for _, m := range offered {
				if !found && slices.Contains(supported, m) {
					want, found = m, true
				}
			}
			if n != want || ok != found {
				t.Errorf("Choose of %v and %v is %d and %v, want %d and %v", offered, supported, n, ok, want, found)
			}
		}
	}
}

// The order of the offered numbers decides, and not that of the others.
func TestChooseTheFirst(t *testing.T) {
	for _, c := range []struct {
		offered, supported []int
		want               int
	}{{[]int{3, 1, 2}, []int{2, 1}, 1}, {[]int{2, 1}, []int{1, 2}, 2}, {[]int{1, 2}, []int{2, 1}, 1}, {[]int{9, 8, 7}, []int{7}, 7}, {[]int{-5}, []int{-5}, -5}} {
		if n, ok := establish.Choose(c.offered, c.supported); n != c.want || !ok {
			t.Errorf("Choose of %v and %v is %d and %v, want %d", c.offered, c.supported, n, ok, c.want)
		}
	}
}

// Both ends have the same keys, whatever they have sent.
func TestKeys(t *testing.T) {
	some := []int{0, 1, 15, 30, 255, 256, 32768, 65534, 65535}
	for _, hello := range [][]byte{nil, counted(1, 40)} {
		client, server := begun(t, true, counted(9, 30), hello), begun(t, false, counted(9, 30), hello)
		busy := client
		busy.Sent, busy.Received = 1<<40, 77
		for _, protocol := range some {
			for _, algo := range some {
				want := standardKeys(t, client, protocol, algo)
				for _, c := range []api.Channel{client, server, busy} {
					if p, e := establish.Keys(c, protocol, algo); e != api.OK || !samePair(p, want) {
						t.Fatalf("Keys of %d and %d is %v and %v, want %v", protocol, algo, p, e, want)
					}
				}
			}
		}
	}
}

// Each way, protocol, algorithm and channel has keys of its own.
func TestKeysOfOtherArguments(t *testing.T) {
	client, _ := ends(t)
	seen := map[string]bool{}
	for _, c := range []api.Channel{client, begun(t, true, counted(0x31, 16), nil), begun(t, true, counted(0x30, 16), []byte{0})} {
		for _, l := range [][]int{{0, 15}, {15, 0}, {0, 0}, {15, 15}, {0, 16}, {1, 15}, {256, 15}, {0, 15 + 256}, {65535, 65535}} {
			p, e := establish.Keys(c, l[0], l[1])
			for _, b := range [][]byte{p.Up, p.Down} {
				if e != api.OK || len(b) != 32 || seen[string(b)] {
					t.Errorf("Keys of %v is %v and %v: a key that has no 32 bytes, or was there already", l, p, e)
				}
				seen[string(b)] = true
			}
		}
	}
}

func TestKeysErrors(t *testing.T) {
	client, server := ends(t)
	numbers := []int{0, 15, 65535, -1, 65536, 65536 + 15, math.MinInt, math.MaxInt}
	for _, protocol := range numbers {
		for _, algo := range numbers {
			for _, c := range []api.Channel{client, server} {
				want := api.OK
				if protocol < 0 || protocol > 65535 || algo < 0 || algo > 65535 {
					want = api.ErrRange
				}
				if p, e := establish.Keys(c, protocol, algo); e != want || e != api.OK && !samePair(p, api.Pair{}) {
					t.Errorf("Keys of %d and %d is %v and %v, want %v", protocol, algo, p, e, want)
				}
			}
			for _, c := range badChannels(t) {
				if p, e := establish.Keys(c, protocol, algo); e != api.ErrForm || !samePair(p, api.Pair{}) {
					t.Errorf("Keys of %d and %d with %v is %v and %v, want ErrForm", protocol, algo, c, p, e)
				}
			}
		}
	}
}
