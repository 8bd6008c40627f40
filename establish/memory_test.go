package establish_test

import (
	"bytes"
	"slices"
	"testing"

	"sectime/api"
	"sectime/establish"
)

// roomy is the beginning of longer memory that no function may write to or show.
func roomy(b []byte) []byte {
	return append(bytes.Clone(b), counted(200, 100)...)[:len(b)]
}

// spoil changes all the memory of bytes, so that whatever shares it shows.
func spoil(b []byte) {
	b = b[:cap(b)]
	for k := range b {
		b[k] ^= 0xff
	}
}

// unspoilt reports whether bytes made by roomy, and those behind them, are still what they were.
func unspoilt(b, want []byte) bool {
	return bytes.Equal(b, want) && bytes.Equal(b[:len(b)+100][len(b):], counted(200, 100))
}

// roomyNumbers are the same numbers with others behind them.
func roomyNumbers(l []int) []int {
	return append(slices.Clone(l), 91, 92, 93)[:len(l)]
}

func unspoiltNumbers(l, want []int) bool {
	return slices.Equal(l, want) && slices.Equal(l[:len(l)+3][len(l):], []int{91, 92, 93})
}

func roomyChannel(c api.Channel) api.Channel {
	c.Secret, c.SendKey, c.ReceiveKey = roomy(c.Secret), roomy(c.SendKey), roomy(c.ReceiveKey)
	return c
}

// checkChannel reports what a function has done to a channel made by roomyChannel.
func checkChannel(t *testing.T, name string, c, want api.Channel) {
	t.Helper()
	if !unspoilt(c.Secret, want.Secret) || !unspoilt(c.SendKey, want.SendKey) || !unspoilt(c.ReceiveKey, want.ReceiveKey) {
		t.Fatalf("%s changes the channel, or shares memory with it: %v, want %v", name, c, want)
	}
}

func TestMemoryOfRecords(t *testing.T) {
	want := []api.Record{must(1, 1, 2), record(9), must(4, counted(1, 40)...), record(6), must(0)}
	l := slices.Clone(want)
	for k := range l {
		l[k].Body = roomy(l[k].Body)
	}
	l = append(l, record(77), record(78))[:len(want)]
	b := roomy(bytesOf(want...))
	for range 2 {
		made, _ := establish.Encode(l)
		if !bytes.Equal(made, bytesOf(want...)) {
			t.Fatalf("Encode is %x", made)
		}
		spoil(made)
		for k, r := range l {
			if !unspoilt(r.Body, want[k].Body) {
				t.Fatal("Encode shares memory with a Body, or changes it")
			}
		}
		if behind := l[:len(l)+2][len(l):]; !sameRecords(l, want) || !sameRecords(behind, []api.Record{record(77), record(78)}) {
			t.Fatal("Encode changes the records")
		}
		// One Body after the other, and none of them shows in the next one.
		read, _ := establish.Decode(b)
		for k, r := range read {
			if !bytes.Equal(r.Body, want[k].Body) {
				t.Fatalf("the Body %d of Decode shares memory with an earlier one: %x", k, r.Body)
			}
			spoil(r.Body)
		}
		clear(read[:cap(read)])
		if !unspoilt(b, bytesOf(want...)) {
			t.Fatal("Decode shares memory with its argument, or changes it")
		}
		numbers, _ := establish.Numbers(b[:6])
		clear(numbers[:cap(numbers)])
		establish.Numbers(b[:7])
		if again, _ := establish.Numbers(b[:6]); !unspoilt(b, bytesOf(want...)) || !slices.Equal(again, []int{0x8001, 2, 0x0102}) {
			t.Fatalf("Numbers is %v, or changes its argument", again)
		}
	}
}

func TestMemoryOfRequests(t *testing.T) {
	client, _ := ends(t)
	c := roomyChannel(client)
	protocols, algos := roomyNumbers([]int{3, 1}), roomyNumbers([]int{15, 9, 16})
	for range 2 {
		spoil(checkRequest(t, protocols, algos, api.OK))
		establish.Choose(protocols, algos)
		establish.Choose(algos, protocols)
		p, _ := establish.Keys(c, 3, 9)
		want := standardKeys(t, client, 3, 9)
		if !samePair(p, want) {
			t.Fatalf("Keys is %v, want %v", p, want)
		}
		spoil(p.Up)
		if !bytes.Equal(p.Down, want.Down) {
			t.Fatal("the keys of a pair share memory")
		}
		spoil(p.Down)
		establish.Keys(c, 3, -9)
		checkChannel(t, "Keys", c, client)
		if !unspoiltNumbers(protocols, []int{3, 1}) || !unspoiltNumbers(algos, []int{15, 9, 16}) {
			t.Fatal("Request or Choose changes a list")
		}
	}
}

func TestMemoryOfRespond(t *testing.T) {
	_, server := ends(t)
	good := bytesOf(must(1, 0, 9, 0, 1), must(4, 0, 16), must(0))
	for _, bytesAsked := range [][]byte{good, good[1:], bytesOf(must(1), must(4), must(9), must(0))} {
		c, b := roomyChannel(server), roomy(bytesAsked)
		r := ring(t, 1, 2)
		for k := range r.Keys {
			r.Keys[k].Key = roomy(r.Keys[k].Key)
		}
		p := api.Policy{Protocols: roomyNumbers([]int{0, 1}), Algos: roomyNumbers([]int{15, 16}), Host: "host", Port: 4460}
		n := nonces(4)
		for k := range n {
			n[k] = roomy(n[k])
		}
		n = n[:3]
		for range 2 {
			spoil(checkRespond(t, p, r, c, b, n))
			checkChannel(t, "Respond", c, server)
			for k, m := range r.Keys {
				if !unspoilt(m.Key, ring(t, 1, 2).Keys[k].Key) || m.ID != ring(t, 1, 2).Keys[k].ID {
					t.Fatal("Respond shares memory with the ring, or changes it")
				}
			}
			for k, nonce := range n[:4] {
				if !unspoilt(nonce, nonces(4)[k]) {
					t.Fatal("Respond shares memory with a nonce, or changes it")
				}
			}
			if !unspoiltNumbers(p.Protocols, []int{0, 1}) || !unspoiltNumbers(p.Algos, []int{15, 16}) || !unspoilt(b, bytesAsked) {
				t.Fatal("Respond changes the policy or the request")
			}
		}
	}
}

func TestMemoryOfFinish(t *testing.T) {
	client, server := ends(t)
	p := policy()
	p.Host, p.Port = "host", 4460
	answer := checkRespond(t, p, ring(t, 1, 1), server, asked(), nonces(3))
	for _, bytesAnswered := range [][]byte{answer, answer[1:], failed(1), bytesOf(must(9), must(0))} {
		c, request, response := roomyChannel(client), roomy(asked()), roomy(bytesAnswered)
		for range 2 {
			terms, e := checkFinish(t, c, request, response)
			want, _ := standardFinish(t, client, asked(), bytesAnswered)
			spoil(terms.Keys.Up)
			if !bytes.Equal(terms.Keys.Down, want.Keys.Down) {
				t.Fatal("the keys of the terms share memory")
			}
			spoil(terms.Keys.Down)
			for k, b := range terms.Cookies {
				if !bytes.Equal(b, want.Cookies[k]) {
					t.Fatal("the cookies of the terms share memory")
				}
				spoil(b)
			}
			clear(terms.Cookies[:cap(terms.Cookies)])
			checkChannel(t, "Finish", c, client)
			if !unspoilt(request, asked()) || !unspoilt(response, bytesAnswered) {
				t.Fatal("Finish shares memory with an argument, or changes it")
			}
			if e == api.OK && (terms.Host != "host" || terms.Port != 4460) {
				t.Fatalf("the terms are %v", terms)
			}
		}
	}
}
