package kiss_test

import (
	"math/rand"
	"strings"
	"testing"

	"sectime/api"
	"sectime/kiss"
)

func checkReact(t *testing.T, p api.Peer, name string, want api.Peer, wanted api.Errno) {
	t.Helper()
	if got, e := kiss.React(p, name); got != want || e != wanted {
		t.Fatalf("React of %+v and %q is %+v and %v, want %+v and %v", p, name, got, e, want, wanted)
	}
}

func checkGood(t *testing.T, p, want api.Peer, wanted api.Errno) {
	t.Helper()
	if got, e := kiss.Good(p); got != want || e != wanted {
		t.Fatalf("Good of %+v is %+v and %v, want %+v and %v", p, got, e, want, wanted)
	}
}

func TestKnownRefusals(t *testing.T) {
	for _, c := range []struct {
		p    api.Peer
		name string
		want api.Peer
		e    api.Errno
	}{
		{api.Peer{Poll: 6}, "DENY", api.Peer{Poll: 6, Stopped: true}, api.OK},
		{api.Peer{Poll: 6}, "RSTR", api.Peer{Poll: 6, Stopped: true}, api.OK},
		{api.Peer{Poll: 6}, "RATE", api.Peer{Poll: 7}, api.OK},
		{api.Peer{Poll: 6}, "NTSN", api.Peer{Poll: 6, Fresh: true}, api.OK},
		{api.Peer{Poll: 4}, "RATE", api.Peer{Poll: 5}, api.OK},
		{api.Peer{Poll: 16}, "RATE", api.Peer{Poll: 17}, api.OK},
		{api.Peer{Poll: 17}, "RATE", api.Peer{Poll: 17}, api.OK},
		{api.Peer{Poll: 17}, "DENY", api.Peer{Poll: 17, Stopped: true}, api.OK},
		{api.Peer{Poll: 4}, "NTSN", api.Peer{Poll: 4, Fresh: true}, api.OK},
		// What earlier refusals have told stays, and a peer that is stopped may still refuse.
		{api.Peer{Poll: 6, Fresh: true}, "DENY", api.Peer{Poll: 6, Stopped: true, Fresh: true}, api.OK},
		{api.Peer{Poll: 6, Stopped: true}, "RATE", api.Peer{Poll: 7, Stopped: true}, api.OK},
		{api.Peer{Poll: 6, Stopped: true, Fresh: true}, "RATE", api.Peer{Poll: 7, Stopped: true, Fresh: true}, api.OK},
		{api.Peer{Poll: 6, Stopped: true}, "NTSN", api.Peer{Poll: 6, Stopped: true, Fresh: true}, api.OK},
		{api.Peer{Poll: 6, Stopped: true}, "RSTR", api.Peer{Poll: 6, Stopped: true}, api.OK},
		// Each error, and both.
		{api.Peer{Poll: 3}, "DENY", api.Peer{}, api.ErrRange},
		{api.Peer{Poll: 18}, "RATE", api.Peer{}, api.ErrRange},
		{api.Peer{Poll: 3}, "INIT", api.Peer{}, api.ErrRange},
		{api.Peer{}, "", api.Peer{}, api.ErrRange},
		{api.Peer{Poll: 6, Fresh: true}, "INIT", api.Peer{}, api.ErrName},
		{api.Peer{Poll: 6, Stopped: true}, "", api.Peer{}, api.ErrName},
		{api.Peer{Poll: 6}, "rate", api.Peer{}, api.ErrName},
	} {
		checkReact(t, c.p, c.name, c.want, c.e)
	}
}

func TestRefusals(t *testing.T) {
	l := append(codes(), noCodes()...)
	for _, p := range peers() {
		for _, name := range append(l, strings.Repeat("RATE", 1<<16)) {
			want, e := standardReact(p, name)
			checkReact(t, p, name, want, e)
		}
	}
}

// React takes just the names that Code takes.
func TestNamesOfRefusals(t *testing.T) {
	for _, code := range codes() {
		for k := range code {
			for x := range 256 {
				name := code[:k] + string([]byte{byte(x)}) + code[k+1:]
				_, e := kiss.React(api.Peer{Poll: 9}, name)
				if _, want := kiss.Code(name); e != want {
					t.Fatalf("React to %q has %v, want %v", name, e, want)
				}
			}
		}
	}
}

func TestKnownGoodAnswers(t *testing.T) {
	for _, c := range []struct {
		p, want api.Peer
		e       api.Errno
	}{
		{api.Peer{Poll: 6}, api.Peer{Poll: 5}, api.OK},
		{api.Peer{Poll: 17}, api.Peer{Poll: 16}, api.OK},
		{api.Peer{Poll: 5}, api.Peer{Poll: 4}, api.OK},
		{api.Peer{Poll: 4}, api.Peer{Poll: 4}, api.OK},
		{api.Peer{Poll: 6, Fresh: true}, api.Peer{Poll: 5}, api.OK},
		{api.Peer{Poll: 4, Fresh: true}, api.Peer{Poll: 4}, api.OK},
		{api.Peer{Poll: 3}, api.Peer{}, api.ErrRange},
		{api.Peer{Poll: 18, Fresh: true}, api.Peer{}, api.ErrRange},
		{api.Peer{}, api.Peer{}, api.ErrRange},
		{api.Peer{Poll: 6, Stopped: true}, api.Peer{}, api.ErrState},
		{api.Peer{Poll: 6, Stopped: true, Fresh: true}, api.Peer{}, api.ErrState},
		{api.Peer{Poll: 3, Stopped: true}, api.Peer{}, api.ErrRange},
		{api.Peer{Poll: 18, Stopped: true, Fresh: true}, api.Peer{}, api.ErrRange},
	} {
		checkGood(t, c.p, c.want, c.e)
	}
}

func TestGoodAnswers(t *testing.T) {
	for _, p := range peers() {
		want, e := standardGood(p)
		checkGood(t, p, want, e)
	}
}

// Whatever a server says, its peer stays one that both functions take, until it is stopped for ever.
func TestAnyAnswers(t *testing.T) {
	r := rand.New(rand.NewSource(30))
	for range 2000 {
		p := api.Peer{Poll: leastPoll + r.Intn(mostPoll-leastPoll+1)}
		// Refusals that stop a peer come seldom, so that there are many answers before them.
		names := append(codes(), strings.Split(strings.Repeat("RATE NTSN ", 20), " ")[:40]...)
		for !p.Stopped && r.Intn(60) > 0 {
			p = refused(t, p, names[r.Intn(len(names))])
			if !p.Stopped && r.Intn(3) > 0 {
				p = answered(t, p)
			}
		}
		for p.Stopped && r.Intn(20) > 0 {
			checkGood(t, p, api.Peer{}, api.ErrState)
			if p = refused(t, p, names[r.Intn(len(names))]); !p.Stopped {
				t.Fatal(p)
			}
		}
	}
}

func refused(t *testing.T, p api.Peer, name string) api.Peer {
	t.Helper()
	next, e := kiss.React(p, name)
	if e != api.OK || next.Poll < p.Poll || next.Poll > mostPoll || p.Stopped && !next.Stopped || p.Fresh && !next.Fresh {
		t.Fatal(p, name, next, e)
	}
	return next
}

func answered(t *testing.T, p api.Peer) api.Peer {
	t.Helper()
	next, e := kiss.Good(p)
	if e != api.OK || next.Poll > p.Poll || next.Poll < leastPoll || next.Fresh || next.Stopped {
		t.Fatal(p, next, e)
	}
	return next
}
