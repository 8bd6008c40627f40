package interleave_test

import (
	"math/rand"
	"testing"

	"sectime/api"
	"sectime/interleave"
	"sectime/packet"
)

// passed is what really happened in an exchange: exact is when the answer was sent, and told what the server believed of it before.
type passed struct {
	t1, t4          int
	t2, told, exact uint64
}

// basic is what an answer tells of its own exchange.
func (p passed) basic() api.Reading {
	return api.Reading{T1: p.t1, T2: p.t2, T3: p.told, T4: p.t4}
}

// later is what the next answer tells of this exchange, if the server remembers it.
func (p passed) later() api.Reading {
	return api.Reading{T1: p.t1, T2: p.t2, T3: p.exact, T4: p.t4, Interleaved: true}
}

// talk is a client and a server whose clocks advance at random, and what the server remembers.
type talk struct {
	t      *testing.T
	r      *rand.Rand
	now    int
	memory []api.Echo
}

// client has the last exchange of which it got the answer, if there was one.
type client struct {
	state api.Interleaver
	last  *passed
}

func newTalk(t *testing.T, seed int64) *talk {
	return &talk{t: t, r: rand.New(rand.NewSource(seed))}
}

func (k *talk) wait() int {
	k.now += 1 + k.r.Intn(1000)
	return k.now
}

// server is what the server's clock shows at k.now.
func (k *talk) server() uint64 {
	return uint64(k.now)<<12 + 1<<50
}

// ask lets c ask a question, and returns it.
func (k *talk) ask(c *client) (passed, api.Header) {
	k.t.Helper()
	p := passed{t1: k.wait()}
	next, q, e := interleave.Ask(c.state, k.r.Uint64()|1, p.t1)
	if e != api.OK {
		k.t.Fatal(c.state, e)
	}
	c.state = next
	return p, q
}

// serve lets the server answer q; when the answer is away, it knows when it was sent, and remembers this.
func (k *talk) serve(p *passed, q api.Header) (h api.Header, inter bool) {
	k.t.Helper()
	k.wait()
	p.t2 = k.server()
	k.wait()
	p.told = k.server()
	n, h, inter, e := interleave.Serve(k.memory, q, 2, p.t2, p.told)
	if e != api.OK {
		k.t.Fatal(k.memory, q, e)
	}
	k.wait()
	p.exact = k.server()
	n[0].Transmit = p.exact
	k.memory = n
	return h, inter
}

// take lets c take the answer to its open question.
func (k *talk) take(c *client, p passed, h api.Header, inter bool) {
	k.t.Helper()
	p.t4 = k.wait()
	next, r, e := interleave.Take(c.state, h, p.t4)
	want := p.basic()
	if inter {
		want = c.last.later()
	}
	if e != api.OK || r != want {
		k.t.Fatalf("Take of %+v with %+v is %+v and %v, want %+v", c.state, h, r, e, want)
	}
	c.state, c.last = next, &p
}

// exchange is a whole one; it fails unless the answer is interleaved, or is not, as wanted.
func (k *talk) exchange(c *client, want bool) {
	k.t.Helper()
	p, q := k.ask(c)
	h, inter := k.serve(&p, q)
	if inter != want {
		k.t.Fatalf("an answer is interleaved: %v, want %v, memory %v, question %+v", inter, want, k.memory, q)
	}
	k.take(c, p, h, inter)
}

// lose is an exchange whose answer does not arrive.
func (k *talk) lose(c *client) {
	k.t.Helper()
	p, q := k.ask(c)
	k.serve(&p, q)
}

// With a server that remembers, each answer but the first one tells the exchange before it, with when its answer was sent.
func TestTalk(t *testing.T) {
	k, c := newTalk(t, 33), &client{}
	for n := range 2000 {
		k.exchange(c, n > 0)
	}
	if len(k.memory) != api.MaxMemory {
		t.Fatal(k.memory)
	}
}

// With one that has forgotten, an answer tells its own exchange, and the next one tells it again, but exactly.
func TestForgetting(t *testing.T) {
	k, c := newTalk(t, 34), &client{}
	k.exchange(c, false)
	for range 500 {
		k.memory = nil
		k.exchange(c, false)
		for range k.r.Intn(4) {
			k.exchange(c, true)
		}
	}
}

// The server still remembers the last exchange behind fewer than MaxMemory answers that were lost.
func TestLostAnswers(t *testing.T) {
	for lost := range 20 {
		k, c := newTalk(t, 35), &client{}
		k.exchange(c, false)
		for range 20 {
			for range lost {
				k.lose(c)
			}
			k.exchange(c, lost < api.MaxMemory)
		}
	}
}

// A question that the server did not get leaves all as it was.
func TestLostQuestions(t *testing.T) {
	k, c := newTalk(t, 36), &client{}
	k.exchange(c, false)
	for n := range 50 {
		for range n {
			k.ask(c)
		}
		k.exchange(c, true)
	}
}

// All clients of a server share its memory: so many as it has places can talk in turn.
func TestSeveralClients(t *testing.T) {
	for count := 1; count <= 12; count++ {
		k, l := newTalk(t, 37), make([]client, count)
		for turn := range 20 {
			for n := range l {
				k.exchange(&l[n], turn > 0 && count <= api.MaxMemory)
			}
		}
	}
}

// Any number of clients, with questions and answers that are lost, and a server that forgets.
func TestAnyTalk(t *testing.T) {
	k, l := newTalk(t, 38), make([]client, 5)
	inter, basic := 0, 0
	for range 20000 {
		c := &l[k.r.Intn(len(l))]
		switch k.r.Intn(12) {
		case 0:
			k.lose(c)
		case 1:
			k.ask(c)
		case 2:
			k.memory = k.memory[:k.r.Intn(len(k.memory)+1)]
		default:
			p, q := k.ask(c)
			h, is := k.serve(&p, q)
			k.take(c, p, h, is)
			if is {
				inter++
			} else {
				basic++
			}
		}
	}
	if inter < 1000 || basic < 1000 {
		t.Fatal(inter, basic)
	}
}

// An answer is taken once, and one in basic mode only for the question that is open.
func TestRepeatedAnswers(t *testing.T) {
	k, c := newTalk(t, 39), &client{}
	for range 300 {
		k.memory = nil
		lost, q := k.ask(c)
		late, _ := k.serve(&lost, q)
		k.memory = nil
		p, q := k.ask(c)
		checkTake(t, c.state, late, k.now, taken{e: api.ErrMatch})
		h, _ := k.serve(&p, q)
		k.take(c, p, h, false)
		checkTake(t, c.state, h, k.now, taken{e: api.ErrState})
		p, q = k.ask(c)
		checkTake(t, c.state, late, k.now, taken{e: api.ErrMatch})
		h, inter := k.serve(&p, q)
		k.take(c, p, h, inter)
		k.ask(c)
		checkTake(t, c.state, h, k.now, taken{e: api.ErrMatch})
	}
}

// In interleaved mode an answer names the last exchange and not its question: one to a question that was forgotten belongs to the open question too, and tells the last exchange as well.
func TestLateAnswers(t *testing.T) {
	k, c := newTalk(t, 40), &client{}
	for n := range 300 {
		k.memory = nil
		k.exchange(c, false)
		forgotten, q := k.ask(c)
		late, inter := k.serve(&forgotten, q)
		open, _ := k.ask(c)
		at := k.wait()
		want := taken{i: api.Interleaver{Known: true, Sent: open.t1, Got: at, Receive: forgotten.t2, Mark: c.state.Transmit}, r: c.last.later()}
		if checkTake(t, c.state, late, at, want); !inter {
			t.Fatal(n, q, late)
		}
	}
}

// So does the answer in basic mode to the last exchange, if it comes again while a question is open: it tells that exchange as before.
func TestAnswersThatComeAgain(t *testing.T) {
	k, c := newTalk(t, 42), &client{}
	for range 300 {
		k.memory = nil
		p, q := k.ask(c)
		h, inter := k.serve(&p, q)
		k.take(c, p, h, inter)
		open, _ := k.ask(c)
		at, told := k.wait(), c.last.basic()
		told.Interleaved = true
		checkTake(t, c.state, h, at, taken{i: api.Interleaver{Known: true, Sent: open.t1, Got: at, Receive: p.t2, Mark: c.state.Transmit}, r: told})
	}
}

// The first questions of clients differ in their Transmit alone, and any question is one that Serve answers.
func TestQuestionsAreServed(t *testing.T) {
	r := rand.New(rand.NewSource(41))
	for range 2000 {
		i, transmit := state(r), r.Uint64()
		a := ask(i, transmit, reading(r))
		if packet.Valid(a.h) != api.OK || !i.Known && a.h != packet.Ask(transmit) {
			t.Fatal(i, a)
		}
		checkServe(t, memory(8), a.h, 1, 7, 8, standardServe(memory(8), a.h, 1, 7, 8))
	}
}
