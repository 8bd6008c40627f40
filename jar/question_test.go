package jar_test

import (
	"bytes"
	"encoding/hex"
	"math"
	"testing"

	"sectime/api"
	"sectime/jar"
	"sectime/packet"
	"sectime/protect"
)

func unhex(t *testing.T, text string) []byte {
	t.Helper()
	b, err := hex.DecodeString(text)
	if err != nil {
		t.Fatal(err)
	}
	return b
}

const transmit = 0x1122334455667788

// The tags were computed by another program, with the CMAC and the AES-SIV of OpenSSL.
func TestKnownQuestions(t *testing.T) {
	for _, c := range []struct {
		have, placeholders, size int
		tag                      string
	}{
		{1, 7, 988, "24c7de2b26751873f87bc7ae3a8580a0"},
		{5, 3, 556, "73a22cb4c736f4640e909b8ff8ca6d08"},
		{8, 0, 232, "f8d495dd5d3be55d2a854ff50c62a133"},
	} {
		j := some(to(c.have)...)
		next, b, e := jar.Question(j, transmit, unique(), nonce())
		want := guarded(standardAhead(transmit, unique(), numbered(1), c.placeholders), nonce(), unhex(t, c.tag))
		if e != api.OK || len(b) != c.size || !bytes.Equal(b, want) {
			t.Errorf("Question of %d cookies is %x and %v, want %x", c.have, b, e, want)
		}
		wanted := some(to(c.have)[1:]...)
		wanted.Last, wanted.Sent = numbered(1), 6
		if !sameJar(next, wanted) {
			t.Errorf("the jar behind a Question of %d cookies is %v, want %v", c.have, next, wanted)
		}
	}
}

// A question is what the chapter says, in terms of layers 16 and 18.
func TestQuestionOpened(t *testing.T) {
	for count := 1; count <= 8; count++ {
		j := some(to(count)...)
		for _, transmit := range []uint64{0, 1, 1 << 63, math.MaxUint64} {
			next, b, e := checkQuestion(t, j, transmit, unique(), nonce())
			if e != api.OK {
				t.Fatalf("Question of %d cookies returns %v", count, e)
			}
			want := api.Packet{Head: packet.Ask(transmit), Plain: []api.Field{{Type: api.ExtUnique, Data: unique()}, {Type: api.ExtCookie, Data: numbered(1)}}, Guarded: true}
			room, _ := jar.Want(next)
			for range room - 1 {
				want.Plain = append(want.Plain, api.Field{Type: api.ExtPlaceholder, Data: make([]byte, 104)})
			}
			if p, e := protect.Open(pair().Up, b); e != api.OK || !samePacket(p, want) {
				t.Fatalf("the question of %d cookies is %v and %v, want %v", count, p, e, want)
			}
			if _, e := protect.Open(pair().Down, b); e != api.ErrAuth {
				t.Fatalf("with the key Down the question opens with %v", e)
			}
		}
	}
}

// A question asks for as many cookies as there is room for: a full answer is as long as it, and fills the jar.
func TestQuestionAsksForAllThatHaveRoom(t *testing.T) {
	for count := 1; count <= 8; count++ {
		next, question, _ := jar.Question(some(to(count)...), transmit, unique(), nonce())
		b := answerOf(t, answer(cookies(to(20)[20-9+count:]...)...))
		full, _, e := jar.Answer(next, unique(), b)
		if e != api.OK || len(full.Cookies) != 8 || len(b) != len(question) {
			t.Errorf("the question of %d cookies has %d bytes, the answer %d, and behind it the jar is %v and %v", count, len(question), len(b), full, e)
		}
	}
}

func TestQuestionOfAllJars(t *testing.T) {
	for _, j := range jars() {
		checkQuestion(t, j, transmit, unique(), nonce())
	}
}

// Neither unique nor the nonce has a meaning.
func TestQuestionOfOtherBytes(t *testing.T) {
	for _, id := range [][]byte{make([]byte, 32), bytes.Repeat([]byte{255}, 32), counted(0, 32)} {
		for _, n := range [][]byte{make([]byte, 16), bytes.Repeat([]byte{255}, 16), counted(0, 16)} {
			if _, _, e := checkQuestion(t, some(7, 8), 0, id, n); e != api.OK {
				t.Errorf("Question with %x and %x returns %v", id, n, e)
			}
		}
	}
}

func TestQuestionErrors(t *testing.T) {
	full, none := some(1), some()
	full.Sent = mostSent
	for _, c := range []struct {
		j    api.Jar
		want api.Errno
	}{{some(1), api.OK}, {full, api.ErrState}, {none, api.ErrNone}, {api.Jar{}, api.ErrForm}} {
		for size := range 70 {
			for nonceSize := range 40 {
				want := c.want
				if size != 32 || nonceSize != 16 {
					want = api.ErrForm
				}
				if _, _, e := checkQuestion(t, c.j, 1, counted(1, size), counted(2, nonceSize)); e != want {
					t.Fatalf("Question with %d and %d bytes returns %v, want %v", size, nonceSize, e, want)
				}
			}
		}
	}
	none.Sent = mostSent
	if _, _, e := checkQuestion(t, none, 1, unique(), nonce()); e != api.ErrNone {
		t.Errorf("Question without a cookie returns %v", e)
	}
}
