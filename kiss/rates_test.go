package kiss_test

import (
	"math/big"
	"math/rand"
	"testing"

	"sectime/api"
	"sectime/kiss"
)

func allow(b api.Bucket, r api.Rule, now int) allowed {
	next, ok, e := kiss.Allow(b, r, now)
	return allowed{next, ok, e}
}

func checkAllow(t *testing.T, b api.Bucket, r api.Rule, now int, want allowed) {
	t.Helper()
	if got := allow(b, r, now); got != want {
		t.Fatalf("Allow of %+v with %+v at %d is %+v, want %+v", b, r, now, got, want)
	}
}

func checkWait(t *testing.T, b api.Bucket, r api.Rule, now, want int, wanted api.Errno) {
	t.Helper()
	if got, e := kiss.Wait(b, r, now); got != want || e != wanted {
		t.Fatalf("Wait of %+v with %+v at %d is %d and %v, want %d and %v", b, r, now, got, e, want, wanted)
	}
}

// checkRate holds Allow against its definition, and checks that behind the ticks of Wait a question is permitted, and not one tick before.
func checkRate(t *testing.T, b api.Bucket, r api.Rule, now int) {
	t.Helper()
	checkAllow(t, b, r, now, standardAllow(b, r, now))
	wait, e := kiss.Wait(b, r, now)
	if wanted := standardRule(b, r, now); e != wanted || e != api.OK && wait != 0 {
		t.Fatalf("Wait of %+v with %+v at %d is %d and %v, want %v", b, r, now, wait, e, wanted)
	}
	if e != api.OK {
		return
	}
	behind := new(big.Int).Add(number(now), number(wait))
	before := new(big.Int).Sub(behind, number(1))
	if wait < 0 || !permitted(b, r, behind) || wait > 0 && permitted(b, r, before) {
		t.Fatalf("Wait of %+v with %+v at %d is %d", b, r, now, wait)
	}
}

func TestKnownRates(t *testing.T) {
	for _, c := range []struct {
		paid, every, burst, now int
		want                    allowed
		wait                    int
	}{
		{0, 10, 1, 0, allowed{b: api.Bucket{Paid: 10}, ok: true}, 0},
		{10, 10, 1, 0, allowed{b: api.Bucket{Paid: 10}}, 10},
		{10, 10, 1, 9, allowed{b: api.Bucket{Paid: 10}}, 1},
		{10, 10, 1, 10, allowed{b: api.Bucket{Paid: 20}, ok: true}, 0},
		// What was paid for long ago permits no more questions than Burst.
		{10, 10, 1, 500, allowed{b: api.Bucket{Paid: 510}, ok: true}, 0},
		{-900, 10, 3, 500, allowed{b: api.Bucket{Paid: 510}, ok: true}, 0},
		{520, 10, 3, 500, allowed{b: api.Bucket{Paid: 530}, ok: true}, 0},
		{521, 10, 3, 500, allowed{b: api.Bucket{Paid: 521}}, 1},
		{530, 10, 3, 500, allowed{b: api.Bucket{Paid: 530}}, 10},
		{530, 10, 3, 509, allowed{b: api.Bucket{Paid: 530}}, 1},
		{530, 10, 3, 510, allowed{b: api.Bucket{Paid: 540}, ok: true}, 0},
		{-30, 10, 3, -60, allowed{b: api.Bucket{Paid: -30}}, 10},
		{-30, 10, 3, -50, allowed{b: api.Bucket{Paid: -20}, ok: true}, 0},
		// The last payment for which there is room, and the first one for which there is none.
		{0, 10, 1, most - 10, allowed{b: api.Bucket{Paid: most}, ok: true}, 0},
		{0, 10, 1, most - 9, allowed{e: api.ErrRange}, 0},
		{most - 10, 10, 64, most - 100, allowed{b: api.Bucket{Paid: most}, ok: true}, 0},
		{most - 9, 10, 64, most - 100, allowed{e: api.ErrRange}, 0},
		{most, 1, 1, most, allowed{e: api.ErrRange}, 0},
		// A question that is not permitted is not paid for, so there is no error.
		{most, 10, 1, 0, allowed{b: api.Bucket{Paid: most}}, most},
		{most, 10, 1, most - 1, allowed{b: api.Bucket{Paid: most}}, 1},
		{most, 10, 2, most - 11, allowed{b: api.Bucket{Paid: most}}, 1},
		{most, 10, 2, most - 10, allowed{e: api.ErrRange}, 0},
		// The longest time to wait is no valid duration.
		{most, 1, 1, -most, allowed{b: api.Bucket{Paid: most}}, 2 * most},
		{most, mostEvery, mostBurst, -most, allowed{b: api.Bucket{Paid: most}}, 2*most - 63*mostEvery},
		{-most, mostEvery, mostBurst, -most, allowed{b: api.Bucket{Paid: mostEvery - most}, ok: true}, 0},
		{63 * mostEvery, mostEvery, mostBurst, 0, allowed{b: api.Bucket{Paid: 64 * mostEvery}, ok: true}, 0},
		{63*mostEvery + 1, mostEvery, mostBurst, 0, allowed{b: api.Bucket{Paid: 63*mostEvery + 1}}, 1},
	} {
		b, r := api.Bucket{Paid: c.paid}, api.Rule{Every: c.every, Burst: c.burst}
		checkAllow(t, b, r, c.now, c.want)
		checkWait(t, b, r, c.now, c.wait, api.OK)
		checkRate(t, b, r, c.now)
	}
}

func TestRates(t *testing.T) {
	for _, r := range rules() {
		for _, now := range append(instants(), outside()...) {
			for _, paid := range append(instants(), outside()...) {
				checkRate(t, api.Bucket{Paid: paid}, r, now)
			}
			burst := (r.Burst - 1) * r.Every
			for _, ahead := range []int{0, 1, r.Every, burst - r.Every, burst, burst + r.Every} {
				for d := -2; d <= 2; d++ {
					checkRate(t, api.Bucket{Paid: now + ahead + d}, r, now)
				}
			}
		}
		// Around the last instant at which there is room for a payment.
		for d := -2; d <= 2; d++ {
			checkRate(t, api.Bucket{}, r, most-r.Every+d)
			checkRate(t, api.Bucket{Paid: most - r.Every + d}, r, most-r.Every)
			checkRate(t, api.Bucket{Paid: most - r.Every + d}, r, most-r.Burst*r.Every)
		}
	}
}

func TestSmallRates(t *testing.T) {
	for every := 1; every <= 7; every++ {
		for burst := 1; burst <= 5; burst++ {
			for ahead := -20; ahead <= 60; ahead++ {
				for _, now := range []int{-30, 0, 7} {
					checkRate(t, api.Bucket{Paid: now + ahead}, api.Rule{Every: every, Burst: burst}, now)
				}
			}
		}
	}
}

func TestRandomRates(t *testing.T) {
	r := rand.New(rand.NewSource(26))
	for range 50000 {
		by, now := rule(r), instant(r)
		checkRate(t, api.Bucket{Paid: instant(r)}, by, now)
		checkRate(t, api.Bucket{Paid: now + r.Intn((by.Burst+1)*by.Every)}, by, now)
	}
}

func TestRateErrors(t *testing.T) {
	for _, r := range noRules() {
		for _, now := range append(instants(), outside()...) {
			for _, paid := range []int{-most, 0, now, most, most + 1} {
				checkAllow(t, api.Bucket{Paid: paid}, r, now, allowed{e: api.ErrRange})
				checkWait(t, api.Bucket{Paid: paid}, r, now, 0, api.ErrRange)
			}
		}
	}
	for _, r := range rules() {
		for _, now := range outside() {
			for _, paid := range append(instants(), outside()...) {
				for _, c := range [][2]int{{paid, now}, {now, paid}} {
					checkAllow(t, api.Bucket{Paid: c[0]}, r, c[1], allowed{e: api.ErrRange})
					checkWait(t, api.Bucket{Paid: c[0]}, r, c[1], 0, api.ErrRange)
				}
			}
		}
	}
}

// asking is a bucket to which questions come, and the instants of those that were permitted.
type asking struct {
	t    *testing.T
	rule api.Rule
	b    api.Bucket
	at   []int
}

func (a *asking) ask(now int) bool {
	a.t.Helper()
	next, ok, e := kiss.Allow(a.b, a.rule, now)
	if e != api.OK || !ok && next != a.b {
		a.t.Fatal(a.b, a.rule, now, next, ok, e)
	}
	if ok {
		a.at = append(a.at, now)
	}
	a.b = next
	return ok
}

// checkSpans checks that in no span of ticks more questions were permitted than the chapter says: spans that begin and end with a question hold the most.
func (a *asking) checkSpans() {
	a.t.Helper()
	for k, from := range a.at {
		for n, to := range a.at[k:] {
			if n+1 > a.rule.Burst+(to-from)/a.rule.Every {
				a.t.Fatalf("%+v permits %d questions from %d to %d", a.rule, n+1, from, to)
			}
		}
	}
}

func TestSpansOfQuestions(t *testing.T) {
	r := rand.New(rand.NewSource(27))
	for range 300 {
		by, now := rule(r), instant(r)/2
		a := &asking{t: t, rule: by, b: api.Bucket{Paid: now - r.Intn(2*by.Every)}}
		for range 200 {
			if r.Intn(3) == 0 {
				now += r.Intn(by.Every + 2)
			}
			if r.Intn(50) == 0 {
				now += r.Intn(2 * by.Burst * by.Every)
			}
			a.ask(now)
		}
		a.checkSpans()
	}
}

// Whoever asks at every tick as long as it is permitted is permitted exactly so many questions.
func TestMostQuestions(t *testing.T) {
	for _, by := range []api.Rule{{Every: 1, Burst: 1}, {Every: 1, Burst: 5}, {Every: 2, Burst: 3}, {Every: 7, Burst: 1}, {Every: 7, Burst: 4}, {Every: 10, Burst: 64}} {
		a := &asking{t: t, rule: by, b: api.Bucket{Paid: -1000}}
		for now := -50; now <= 150; now++ {
			for len(a.at) < 500 && a.ask(now) {
			}
			if len(a.at) != by.Burst+(now+50)/by.Every {
				t.Fatalf("%+v permits %d questions from -50 to %d", by, len(a.at), now)
			}
		}
		a.checkSpans()
	}
}

// A bucket is a store that gains a part of a question at each tick, up to Burst questions: one is permitted if there is a whole one.
func TestStores(t *testing.T) {
	r := rand.New(rand.NewSource(28))
	for range 300 {
		by, now := rule(r), instant(r)/2
		a := &asking{t: t, rule: by, b: api.Bucket{Paid: now}}
		store := by.Burst * by.Every
		for range 200 {
			whole := store >= by.Every
			if a.ask(now) != whole {
				t.Fatal(by, a.b, now, store)
			}
			if whole {
				store -= by.Every
			}
			step := r.Intn(by.Every+1) >> r.Intn(8)
			now, store = now+step, min(store+step, by.Burst*by.Every)
		}
	}
}

// Whoever waits as long as Wait says is never refused, and in the end asks as often as the rule permits.
func TestWaiting(t *testing.T) {
	r := rand.New(rand.NewSource(29))
	for range 300 {
		by, first := rule(r), instant(r)/2
		a, now := &asking{t: t, rule: by, b: api.Bucket{Paid: first}}, first
		for n := range 150 {
			wait, e := kiss.Wait(a.b, by, now)
			if now += wait; e != api.OK || now != first+max(n+1-by.Burst, 0)*by.Every || !a.ask(now) {
				t.Fatal(by, first, n, now, wait, e)
			}
		}
	}
}

// An instant that falls gives nothing back: what was paid for stays paid.
func TestFallingInstants(t *testing.T) {
	by := api.Rule{Every: 10, Burst: 2}
	a := &asking{t: t, rule: by}
	if !a.ask(100) || a.ask(0) || a.ask(89) || a.ask(99) || !a.ask(100) || a.ask(99) || a.ask(109) || !a.ask(110) {
		t.Fatal(a.b, a.at)
	}
}
