package kiss_test

import (
	"math"
	"math/big"
	"math/rand"

	"sectime/api"
)

// The definitions of the chapter, rates in integers of any length, and the arguments that are held against them.

const (
	most      = 1 << 60 // the greatest instant
	mostEvery = 1 << 40 // the greatest number of ticks between two questions
	mostBurst = 64      // the greatest number of questions at once
	leastPoll = 4
	mostPoll  = 17
)

func standardCode(name string) (uint32, api.Errno) {
	switch name {
	case "DENY", "RSTR", "RATE", "NTSN":
		return uint32(name[0])<<24 + uint32(name[1])<<16 + uint32(name[2])<<8 + uint32(name[3]), api.OK
	}
	return 0, api.ErrName
}

func standardName(refid uint32) string {
	name := string([]byte{byte(refid >> 24), byte(refid >> 16), byte(refid >> 8), byte(refid)})
	if _, e := standardCode(name); e != api.OK {
		return ""
	}
	return name
}

type allowed struct {
	b  api.Bucket
	ok bool
	e  api.Errno
}

func valid(t int) bool {
	return t >= -most && t <= most
}

func standardRule(b api.Bucket, r api.Rule, now int) api.Errno {
	if r.Every < 1 || r.Every > mostEvery || r.Burst < 1 || r.Burst > mostBurst || !valid(now) || !valid(b.Paid) {
		return api.ErrRange
	}
	return api.OK
}

func number(n int) *big.Int {
	return big.NewInt(int64(n))
}

// tooMuch is paid - now - (Burst - 1) Every, where paid is the greater one of b.Paid and now.
func tooMuch(b api.Bucket, r api.Rule, now *big.Int) *big.Int {
	paid := number(b.Paid)
	if paid.Cmp(now) < 0 {
		paid.Set(now)
	}
	burst := new(big.Int).Mul(number(r.Burst-1), number(r.Every))
	return paid.Sub(paid, now).Sub(paid, burst)
}

// permitted reports whether a question at an instant is permitted, also at one that is not valid.
func permitted(b api.Bucket, r api.Rule, now *big.Int) bool {
	return tooMuch(b, r, now).Sign() <= 0
}

func standardAllow(b api.Bucket, r api.Rule, now int) allowed {
	if e := standardRule(b, r, now); e != api.OK {
		return allowed{e: e}
	}
	if !permitted(b, r, number(now)) {
		return allowed{b: b}
	}
	if b.Paid < now {
		b.Paid = now
	}
	next := new(big.Int).Add(number(b.Paid), number(r.Every))
	if next.Cmp(number(most)) > 0 {
		return allowed{e: api.ErrRange}
	}
	return allowed{b: api.Bucket{Paid: int(next.Int64())}, ok: true}
}

func standardReact(p api.Peer, name string) (api.Peer, api.Errno) {
	if p.Poll < leastPoll || p.Poll > mostPoll {
		return api.Peer{}, api.ErrRange
	}
	switch name {
	case "DENY", "RSTR":
		return api.Peer{Poll: p.Poll, Stopped: true, Fresh: p.Fresh}, api.OK
	case "RATE":
		if p.Poll < mostPoll {
			return api.Peer{Poll: p.Poll + 1, Stopped: p.Stopped, Fresh: p.Fresh}, api.OK
		}
		return p, api.OK
	case "NTSN":
		return api.Peer{Poll: p.Poll, Stopped: p.Stopped, Fresh: true}, api.OK
	}
	return api.Peer{}, api.ErrName
}

func standardGood(p api.Peer) (api.Peer, api.Errno) {
	if p.Poll < leastPoll || p.Poll > mostPoll {
		return api.Peer{}, api.ErrRange
	}
	if p.Stopped {
		return api.Peer{}, api.ErrState
	}
	if p.Poll > leastPoll {
		return api.Peer{Poll: p.Poll - 1}, api.OK
	}
	return api.Peer{Poll: leastPoll}, api.OK
}

func codes() []string {
	return []string{"DENY", "RSTR", "RATE", "NTSN"}
}

// noCodes are names that are none: codes in another case, cut, with more behind or before them, of other documents, and any other text.
func noCodes() []string {
	l := []string{"", "\x00\x00\x00\x00", "INIT", "STEP", "AUTH", "????", "DENYRSTR", "DENY,RSTR", "D\u00cbNY", "\u0414ENY", "\xff\xff\xff\xff"}
	for _, c := range codes() {
		l = append(l, string(c[0]|32)+c[1:], c[:3]+string(c[3]|32), c[:1], c[:3], c[1:], c+"\x00", c+" ", " "+c, c+c, "\x00"+c[1:], c[:3]+"\x00", c[1:]+c[:1])
	}
	return l
}

func instants() []int {
	return []int{-most, 1 - most, -mostEvery, -1, 0, 1, 1000, mostEvery, most - mostEvery, most - 1, most}
}

// outside are numbers that are no instants.
func outside() []int {
	return []int{-most - 1, most + 1, -2 * most, 2 * most, 4*most - 1, math.MinInt, math.MinInt + 1, math.MaxInt - 1, math.MaxInt}
}

func rules() []api.Rule {
	var l []api.Rule
	for _, every := range []int{1, 2, 10, 1 << 20, mostEvery - 1, mostEvery} {
		for _, burst := range []int{1, 2, 3, 10, mostBurst - 1, mostBurst} {
			l = append(l, api.Rule{Every: every, Burst: burst})
		}
	}
	return l
}

// noRules are rules that cannot be stated.
func noRules() []api.Rule {
	var l []api.Rule
	for _, n := range []int{0, -1, -10, math.MinInt, math.MinInt + 1, math.MaxInt, math.MaxInt - 1, 1 << 62} {
		l = append(l, api.Rule{Every: n, Burst: 1}, api.Rule{Every: 1, Burst: n}, api.Rule{Every: n, Burst: mostBurst}, api.Rule{Every: mostEvery, Burst: n}, api.Rule{Every: n, Burst: n})
	}
	return append(l, api.Rule{}, api.Rule{Every: mostEvery + 1, Burst: 1}, api.Rule{Every: 1, Burst: mostBurst + 1}, api.Rule{Every: mostEvery + 1, Burst: mostBurst}, api.Rule{Every: mostEvery, Burst: mostBurst + 1}, api.Rule{Every: -mostEvery, Burst: 1}, api.Rule{Every: 1, Burst: -mostBurst})
}

func instant(r *rand.Rand) int {
	return (2*r.Intn(2) - 1) * (r.Intn(most+1) >> r.Intn(60))
}

func rule(r *rand.Rand) api.Rule {
	return api.Rule{Every: 1 + r.Intn(mostEvery)>>r.Intn(40), Burst: 1 + r.Intn(mostBurst)>>r.Intn(7)}
}

// polls are poll exponents that a peer can have, and around them such as it cannot.
func polls() []int {
	l := []int{math.MinInt, math.MinInt + 1, math.MaxInt, math.MaxInt - 1, leastPoll + 1<<32, -leastPoll, -mostPoll, 256 + leastPoll}
	for p := -3; p <= mostPoll+5; p++ {
		l = append(l, p)
	}
	return l
}

// peers are all peers with these poll exponents.
func peers() []api.Peer {
	var l []api.Peer
	for _, p := range polls() {
		l = append(l, api.Peer{Poll: p}, api.Peer{Poll: p, Stopped: true}, api.Peer{Poll: p, Fresh: true}, api.Peer{Poll: p, Stopped: true, Fresh: true})
	}
	return l
}
