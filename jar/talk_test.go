package jar_test

import (
	"encoding/binary"
	"math/rand"
	"testing"

	"sectime/api"
	"sectime/cookie"
	"sectime/jar"
	"sectime/packet"
	"sectime/protect"
)

// server answers questions with new cookies, as one that keeps no state does; its nonces are a number that goes up.
type server struct {
	ring   api.Ring
	nonces uint64
}

func (s *server) nonce() []byte {
	s.nonces++
	return binary.BigEndian.AppendUint64(make([]byte, 8), s.nonces)
}

func (s *server) cookie(t *testing.T, p api.Pair) []byte {
	t.Helper()
	b, e := cookie.Make(s.ring, api.AlgoSiv, p, s.nonce())
	if e != api.OK {
		t.Fatalf("Make returns %v", e)
	}
	return b
}

// answer returns the cookie of a question and the bytes of its answer.
func (s *server) answer(t *testing.T, question []byte) ([]byte, []byte) {
	t.Helper()
	seen, e := protect.Read(question)
	if e != api.OK || len(seen.Plain) < 3 {
		t.Fatalf("the question is %v and %v", seen, e)
	}
	_, keys, _, e := cookie.Open(s.ring, seen.Plain[1].Data)
	if e != api.OK {
		t.Fatalf("the cookie opens with %v", e)
	}
	p, e := protect.Open(keys.Up, question)
	if e != api.OK {
		t.Fatalf("the question opens with %v", e)
	}
	head, _ := packet.Reply(p.Head, 1, 5, 6)
	reply := api.Packet{Head: head, Plain: p.Plain[:1]}
	for range p.Plain[1:] {
		reply.Secret = append(reply.Secret, field(api.ExtCookie, s.cookie(t, keys)))
	}
	b, e := protect.Protect(keys.Down, reply, s.nonce())
	if e != api.OK || len(b) != len(question) {
		t.Fatalf("the answer has %d bytes and %v, the question %d", len(b), e, len(question))
	}
	return p.Plain[1].Data, b
}

// A client that talks to a server for a long time, loses answers, gets old ones again and moves, sends no cookie twice.
func TestTalk(t *testing.T) {
	r := rand.New(rand.NewSource(26))
	ring, _ := cookie.Start(5, counted(9, 32))
	s := &server{ring: ring}
	j, e := jar.New(api.Terms{Keys: pair(), Cookies: [][]byte{s.cookie(t, pair()), s.cookie(t, pair())}}, 0)
	if e != api.OK {
		t.Fatal(e)
	}
	seen, last := map[string]bool{}, []byte(nil)
	for k := range 1000 {
		id := binary.BigEndian.AppendUint64(make([]byte, 24), uint64(k))
		next, question, e := jar.Question(j, uint64(k), id, s.nonce())
		if e != api.OK || next.Sent != k+1 {
			t.Fatalf("question %d: %v and %v", k, next, e)
		}
		sent, b := s.answer(t, question)
		if seen[string(sent)] {
			t.Fatalf("question %d sends the cookie %x again", k, sent)
		}
		seen[string(sent)] = true
		if _, _, e := jar.Answer(next, id, last); k > 0 && e != api.ErrState {
			t.Fatalf("an old answer is one to question %d: %v", k, e)
		}
		// As long as there is another cookie, the answer may be lost.
		if len(next.Cookies) == 0 || r.Intn(3) > 0 {
			next, _, e = jar.Answer(next, id, b)
			if e != api.OK || len(next.Cookies) != 8 {
				t.Fatalf("behind the answer %d the jar is %v and %v", k, next, e)
			}
			last = b
		} else if last == nil {
			last = b
		}
		if r.Intn(4) == 0 {
			next, _ = checkMove(t, next, r.Intn(3))
		}
		j = next
	}
}
