package interleave_test

import (
	"math"
	"math/rand"
	"testing"

	"sectime/api"
	"sectime/interleave"
)

func ask(i api.Interleaver, transmit uint64, at int) asked {
	next, h, e := interleave.Ask(i, transmit, at)
	return asked{next, h, e}
}

func checkAsk(t *testing.T, i api.Interleaver, transmit uint64, at int, want asked) {
	t.Helper()
	if got := ask(i, transmit, at); got != want {
		t.Fatalf("Ask of %+v with %d at %d is %+v, want %+v", i, transmit, at, got, want)
	}
}

func TestKnownQuestions(t *testing.T) {
	first := api.Header{Version: 4, Mode: 3, Poll: 6, Transmit: 8}
	later := api.Header{Version: 4, Mode: 3, Poll: 6, Origin: 30, Receive: 7, Transmit: 8}
	known := api.Interleaver{Known: true, Sent: 1, Got: 2, Receive: 30, Mark: 7}
	asking := known
	asking.Open, asking.Transmit, asking.Asked = true, 8, 50
	forgotten := known
	forgotten.Open, forgotten.Transmit, forgotten.Asked = true, 9, 90
	for _, c := range []struct {
		i        api.Interleaver
		transmit uint64
		at       int
		want     asked
	}{
		{api.Interleaver{}, 8, 50, asked{i: api.Interleaver{Open: true, Transmit: 8, Asked: 50}, h: first}},
		{known, 8, 50, asked{i: asking, h: later}},
		// A question that is open leaves no trace, also if it was asked later than this one, or with the same number.
		{forgotten, 8, 50, asked{i: asking, h: later}},
		{asking, 8, 50, asked{i: asking, h: later}},
		{api.Interleaver{Open: true, Transmit: 9, Asked: 90}, 8, 50, asked{i: api.Interleaver{Open: true, Transmit: 8, Asked: 50}, h: first}},
		// What stands in a state without an exchange is not told to the server, and forbids no number.
		{api.Interleaver{Sent: 1, Got: 2, Receive: 30, Mark: 7}, 8, 50, asked{i: api.Interleaver{Open: true, Transmit: 8, Asked: 50, Sent: 1, Got: 2, Receive: 30, Mark: 7}, h: first}},
		{api.Interleaver{Mark: 8}, 8, 50, asked{i: api.Interleaver{Open: true, Transmit: 8, Asked: 50, Mark: 8}, h: first}},
		// The number of the server's Receive is none of the client's, and may be 0.
		{api.Interleaver{Known: true, Receive: 8, Mark: 7}, 8, 50, asked{i: api.Interleaver{Open: true, Known: true, Transmit: 8, Asked: 50, Receive: 8, Mark: 7}, h: api.Header{Version: 4, Mode: 3, Poll: 6, Origin: 8, Receive: 7, Transmit: 8}}},
		{api.Interleaver{Known: true, Mark: 7}, 8, 50, asked{i: api.Interleaver{Open: true, Known: true, Transmit: 8, Asked: 50, Mark: 7}, h: api.Header{Version: 4, Mode: 3, Poll: 6, Receive: 7, Transmit: 8}}},
		// The number 0 is never permitted, nor that of the last exchange; a reading that is not valid comes before both.
		{api.Interleaver{}, 0, 50, asked{e: api.ErrForm}},
		{known, 0, 50, asked{e: api.ErrForm}},
		{api.Interleaver{Known: true}, 0, 50, asked{e: api.ErrForm}},
		{known, 7, 50, asked{e: api.ErrForm}},
		{asking, 7, 50, asked{e: api.ErrForm}},
		{api.Interleaver{}, 0, most + 1, asked{e: api.ErrRange}},
		{known, 7, -most - 1, asked{e: api.ErrRange}},
		{known, 8, most + 1, asked{e: api.ErrRange}},
		{known, 8, math.MinInt, asked{e: api.ErrRange}},
	} {
		checkAsk(t, c.i, c.transmit, c.at, c.want)
	}
}

func TestQuestions(t *testing.T) {
	r := rand.New(rand.NewSource(24))
	for _, at := range append(instants(), outside()...) {
		for _, transmit := range stamps() {
			for _, mark := range stamps() {
				for n := range 4 {
					i := state(r)
					i.Open, i.Known, i.Mark, i.Receive = n%2 == 0, n/2 == 0, mark, oneOf(r, stamps())
					checkAsk(t, i, transmit, at, standardAsk(i, transmit, at))
				}
			}
		}
	}
}

func TestRandomQuestions(t *testing.T) {
	r := rand.New(rand.NewSource(25))
	for range 20000 {
		i, transmit, at := state(r), r.Uint64(), reading(r)
		checkAsk(t, i, transmit, at, standardAsk(i, transmit, at))
		checkAsk(t, i, i.Mark, at, standardAsk(i, i.Mark, at))
		checkAsk(t, i, i.Transmit, at, standardAsk(i, i.Transmit, at))
	}
}

// To the server a question tells nothing of the client's readings.
func TestQuestionsTellNoReadings(t *testing.T) {
	r := rand.New(rand.NewSource(26))
	for range 2000 {
		i, transmit := state(r), r.Uint64()
		other := i
		other.Sent, other.Got, other.Asked = reading(r), reading(r), reading(r)
		if a, b := ask(i, transmit, reading(r)), ask(other, transmit, reading(r)); a.h != b.h || a.e != api.OK {
			t.Fatal(i, transmit, a, b)
		}
	}
}
