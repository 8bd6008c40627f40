package establish_test

import (
	"bytes"
	"math/rand"
	"slices"
	"strings"
	"testing"

	"sectime/api"
	"sectime/cookie"
	"sectime/establish"
)

// checkFinish compares Finish with the definition.
func checkFinish(t *testing.T, c api.Channel, request, response []byte) (api.Terms, api.Errno) {
	t.Helper()
	got, e := establish.Finish(c, request, response)
	want, f := standardFinish(t, c, request, response)
	if e != f || !sameTerms(got, want) {
		t.Fatalf("Finish of %x and %x is %v and %v, want %v and %v", request, response, got, e, want, f)
	}
	return got, e
}

// asked is a request for the protocols 0 and 1 and the algorithms 15 and 16.
func asked() []byte {
	return bytesOf(must(1, 0, 0, 0, 1), must(4, 0, 15, 0, 16), must(0))
}

func oneCookie() api.Record { return record(5, counted(1, 104)...) }

// The client gets what the server meant, and the keys are the pair in every cookie, whatever both of them ask and support.
func TestWhole(t *testing.T) {
	random := rand.New(rand.NewSource(2103))
	some := func() []int {
		var l []int
		for range 1 + random.Intn(16) {
			l = append(l, random.Intn(12))
		}
		return l
	}
	for k := range 600 {
		client, server := begun(t, true, counted(k, 20), counted(k, k%50)), begun(t, false, counted(k, 20), counted(k, k%50))
		p := api.Policy{Protocols: some(), Algos: some(), Host: string(counted(k, random.Intn(256))), Port: random.Intn(65536)}
		protocols, algos := some(), some()
		request, e := establish.Request(protocols, algos)
		if e != api.OK {
			t.Fatalf("Request returns %v", e)
		}
		r := ring(t, k, 1+k%4)
		answer := checkRespond(t, p, r, server, request, nonces(1+k%8))
		terms, e := checkFinish(t, client, request, answer)
		protocol, algo := standardChoose(protocols, p.Protocols), standardChoose(algos, p.Algos)
		if protocol < 0 || algo < 0 {
			if e != api.ErrNone {
				t.Fatalf("Finish of %v returns %v, without an agreement", p, e)
			}
			continue
		}
		if e != api.OK || terms.Protocol != protocol || terms.Algo != algo || len(terms.Cookies) != 1+k%8 || terms.Host != p.Host || terms.Port != p.Port {
			t.Fatalf("Finish of %v and %v: %v and %v with the policy %v", protocols, algos, terms, e, p)
		}
		for _, b := range terms.Cookies {
			in, pair, age, e := cookie.Open(r, b)
			if e != api.OK || in != algo || age != 0 || !samePair(pair, terms.Keys) {
				t.Fatalf("in a cookie there are %d, %v, %d and %v, and the terms are %v", in, pair, age, e, terms)
			}
		}
	}
}

// What an answer that tells an error says to the client.
func TestFinishOfFailures(t *testing.T) {
	client, server := ends(t)
	for _, n := range []int{0, 9} {
		answer := checkRespond(t, policy(), ring(t, 1, 1), server, asked(), nonces(n))
		if terms, e := checkFinish(t, client, asked(), answer); e != api.ErrState || !sameTerms(terms, api.Terms{}) {
			t.Errorf("Finish is %v and %v, want ErrState", terms, e)
		}
	}
}

// Responses of all sorts: each list of up to 3 records of the pool, and each pair of them beside what a response needs, in several orders.
func TestFormsOfResponses(t *testing.T) {
	client, _ := ends(t)
	check := func(l ...api.Record) { checkFinish(t, client, asked(), bytesOf(l...)) }
	protocol, algo, one, end := must(1, 0, 1), record(4, 0, 16), oneCookie(), must(0)
	check()
	check(protocol, algo, one, end)
	for _, a := range pool() {
		check(a)
		check(a, end)
		check(a, protocol, algo, one, end)
		check(protocol, algo, a, end)
		check(protocol, one, a, end)
		check(algo, one, a, end)
		check(protocol, algo, one, a)
		check(protocol, algo, one, end, a)
		for _, b := range pool() {
			check(a, b, end)
			check(a, one, protocol, b, algo, end)
			check(protocol, a, b, one, algo, end)
			check(a, b, protocol, one, end)
			for _, c := range pool() {
				check(a, b, c)
			}
		}
	}
}

// Everything that is checked, each where nothing that is checked later is right either.
func TestFinishErrors(t *testing.T) {
	client, _ := ends(t)
	protocol, algo, one, end, strange, fault := must(1, 0, 0), must(4, 0, 15), oneCookie(), must(0), must(8), must(2, 0, 1)
	short, nine := record(5, counted(1, 103)...), slices.Repeat([]api.Record{one}, 9)
	for k, c := range []struct {
		l    []api.Record
		want api.Errno
	}{
		{[]api.Record{protocol, algo, one, end}, api.OK},
		{[]api.Record{record(0)}, api.ErrNone},
		{[]api.Record{end, protocol, algo, one, record(0)}, api.ErrForm},
		{[]api.Record{strange, fault, protocol, protocol, end}, api.ErrForm},
		{[]api.Record{strange, fault, algo, algo, end}, api.ErrForm},
		{[]api.Record{strange, fault, must(1, 0), end}, api.ErrForm},
		{[]api.Record{strange, fault, must(4, 0), end}, api.ErrForm},
		{[]api.Record{strange, fault, record(6), record(6), end}, api.ErrForm},
		{[]api.Record{strange, fault, record(7, 1, 2), record(7, 1, 2), end}, api.ErrForm},
		{[]api.Record{strange, fault, record(7, 1), end}, api.ErrForm},
		{[]api.Record{strange, fault, must(0, 1)}, api.ErrForm},
		{[]api.Record{strange, fault}, api.ErrForm},
		{[]api.Record{strange, fault, end}, api.ErrName},
		{[]api.Record{record(8), must(8), record(8), protocol, algo, one, end}, api.ErrName},
		{[]api.Record{protocol, algo, one, must(32767), end}, api.ErrName},
		{[]api.Record{protocol, algo, one, record(8), record(32767), end}, api.OK},
		{[]api.Record{fault, end}, api.ErrState},
		{[]api.Record{record(2), end}, api.ErrState},
		{[]api.Record{record(2), record(2, 1, 2, 3), end}, api.ErrState},
		{[]api.Record{protocol, algo, one, record(2), end}, api.ErrState},
		{[]api.Record{protocol, algo, one, must(3, 1), record(3), end}, api.OK},
		{[]api.Record{end}, api.ErrNone},
		{append(slices.Clone(nine), algo, end), api.ErrNone},
		{append(slices.Clone(nine), protocol, end), api.ErrNone},
		{[]api.Record{short, protocol, must(4), end}, api.ErrNone},
		{[]api.Record{short, must(1), algo, end}, api.ErrNone},
		{[]api.Record{short, must(1, 0, 0, 0, 1), algo, end}, api.ErrNone},
		{[]api.Record{short, must(1, 0, 0, 0, 0), algo, end}, api.ErrNone},
		{[]api.Record{short, protocol, must(4, 0, 15, 0, 16), end}, api.ErrNone},
		{[]api.Record{short, must(1, 0, 2), algo, end}, api.ErrNone},
		{[]api.Record{short, must(1, 0, 15), algo, end}, api.ErrNone},
		{[]api.Record{short, protocol, must(4, 0, 14), end}, api.ErrNone},
		{[]api.Record{short, protocol, must(4, 0, 1), end}, api.ErrNone},
		{[]api.Record{protocol, algo, end}, api.ErrNone},
		{append(slices.Clone(nine), short, protocol, algo, end), api.ErrLimit},
		{append([]api.Record{short}, append(slices.Clone(nine), protocol, algo, end)...), api.ErrLimit},
		{append(slices.Clone(nine), protocol, algo, end), api.ErrLimit},
		{append(slices.Clone(nine[1:]), protocol, algo, end), api.OK},
		{append(slices.Clone(nine[2:]), short, protocol, algo, end), api.ErrForm},
		{[]api.Record{short, one, protocol, algo, end}, api.ErrForm},
		{[]api.Record{record(5), protocol, algo, end}, api.ErrForm},
		{[]api.Record{must(5, counted(1, 105)...), protocol, algo, end}, api.ErrForm},
		{[]api.Record{must(5, counted(1, 104)...), protocol, algo, end}, api.OK},
		{append(slices.Repeat([]api.Record{record(9)}, 60), protocol, algo, one, end), api.OK},
		{append(slices.Repeat([]api.Record{record(9)}, 61), protocol, algo, one, end), api.ErrForm},
	} {
		if terms, e := checkFinish(t, client, asked(), bytesOf(c.l...)); e != c.want || e != api.OK && !sameTerms(terms, api.Terms{}) {
			t.Errorf("case %d: Finish is %v and %v, want %v", k, terms, e, c.want)
		}
		for _, bad := range badChannels(t) {
			if terms, e := checkFinish(t, bad, asked(), bytesOf(c.l...)); e != api.ErrForm || !sameTerms(terms, api.Terms{}) {
				t.Errorf("case %d: Finish with the channel %v is %v and %v, want ErrForm", k, bad, terms, e)
			}
		}
		// The request is looked at before the response is.
		if terms, e := checkFinish(t, client, nil, bytesOf(c.l...)); e != api.ErrForm || !sameTerms(terms, api.Terms{}) {
			t.Errorf("case %d: Finish without a request is %v and %v, want ErrForm", k, terms, e)
		}
	}
}

// Bytes that are nearly a request, and those that are one.
func TestRequests(t *testing.T) {
	client, _ := ends(t)
	protocol, algo, end := must(1, 0, 0), must(4, 0, 15), must(0)
	response := bytesOf(protocol, algo, oneCookie(), end)
	good := bytesOf(protocol, algo, end)
	for k, c := range []struct {
		b    []byte
		want api.Errno
	}{
		{good, api.OK}, {asked(), api.OK},
		{bytesOf(must(1, make([]byte, 32)...), must(4, bytes.Repeat([]byte{0, 15}, 16)...), end), api.OK},
		{bytesOf(must(1, make([]byte, 34)...), algo, end), api.ErrForm},
		{bytesOf(protocol, must(4, bytes.Repeat([]byte{0, 15}, 17)...), end), api.ErrForm},
		{bytesOf(must(1), algo, end), api.ErrForm}, {bytesOf(protocol, must(4), end), api.ErrForm},
		{bytesOf(must(1, 0, 0, 0), algo, end), api.ErrForm}, {bytesOf(protocol, must(4, 0, 15, 0), end), api.ErrForm},
		{bytesOf(record(1, 0, 0), algo, end), api.ErrForm}, {bytesOf(protocol, record(4, 0, 15), end), api.ErrForm}, {bytesOf(protocol, algo, record(0)), api.ErrForm},
		{bytesOf(algo, protocol, end), api.ErrForm}, {bytesOf(end, protocol, algo), api.ErrForm}, {bytesOf(protocol, end, algo), api.ErrForm},
		{bytesOf(protocol, algo), api.ErrForm}, {bytesOf(protocol, end), api.ErrForm}, {bytesOf(algo, end), api.ErrForm}, {bytesOf(end), api.ErrForm}, {nil, api.ErrForm},
		{bytesOf(protocol, protocol, algo, end), api.ErrForm}, {bytesOf(protocol, algo, algo, end), api.ErrForm}, {bytesOf(protocol, algo, end, end), api.ErrForm}, {bytesOf(protocol, algo, must(0, 0)), api.ErrForm},
		{bytesOf(protocol, algo, record(8), end), api.ErrForm}, {bytesOf(record(6, 'h'), protocol, algo, end), api.ErrForm}, {bytesOf(protocol, record(7, 0, 1), algo, end), api.ErrForm}, {bytesOf(protocol, algo, record(3), end), api.ErrForm},
		{good[1:], api.ErrForm}, {good[:len(good)-1], api.ErrForm}, {append(bytes.Clone(good), 0), api.ErrForm}, {make([]byte, 65536), api.ErrForm},
	} {
		if terms, e := checkFinish(t, client, c.b, response); e != c.want || e != api.OK && !sameTerms(terms, api.Terms{}) {
			t.Errorf("case %d: Finish is %v and %v, want %v", k, terms, e, c.want)
		}
	}
	for k := range good {
		for _, x := range []byte{1, 2, 4, 8, 128, 255} {
			b := bytes.Clone(good)
			b[k] ^= x
			checkFinish(t, client, b, response)
		}
	}
}

// Each of 16 offered numbers may be taken, and the numbers of the one list are not those of the other.
func TestTaken(t *testing.T) {
	client, server := ends(t)
	var protocols, algos []int
	for k := range 16 {
		protocols, algos = append(protocols, 4096*k), append(algos, 4096*k+15)
	}
	request := bytesOf(must(1, body(protocols...)...), must(4, body(algos...)...), must(0))
	for _, protocol := range append(slices.Clone(algos[:2]), protocols...) {
		for _, algo := range append(slices.Clone(protocols[:2]), algos...) {
			terms, e := checkFinish(t, client, request, bytesOf(must(4, body(algo)...), oneCookie(), must(1, body(protocol)...), must(0)))
			if !slices.Contains(protocols, protocol) || !slices.Contains(algos, algo) {
				if e != api.ErrNone {
					t.Errorf("Finish of %d and %d: %v, want ErrNone", protocol, algo, e)
				}
				continue
			}
			keys, _ := establish.Keys(server, protocol, algo)
			if e != api.OK || terms.Protocol != protocol || terms.Algo != algo || !samePair(terms.Keys, keys) {
				t.Errorf("Finish of %d and %d is %v and %v", protocol, algo, terms, e)
			}
		}
	}
}

// The cookies come in their order, wherever they stand, and so do Host and Port, of any length and value.
func TestContents(t *testing.T) {
	client, _ := ends(t)
	protocol, algo, end := must(1, 0, 1), must(4, 0, 16), must(0)
	for n := 1; n <= 8; n++ {
		l, want := []api.Record{protocol}, [][]byte{}
		for k := range n {
			b := counted(100-11*k, 104)
			want = append(want, b)
			l = append(l, api.Record{Critical: k%2 == 1, Type: 5, Body: b}, record(9), []api.Record{algo, must(3), record(6, 'x')}[min(k, 1)])
		}
		terms, e := checkFinish(t, client, asked(), bytesOf(append(l, end)...))
		if e != api.OK || !slices.EqualFunc(terms.Cookies, want, bytes.Equal) {
			t.Errorf("Finish is %v and %v, want the cookies %x", terms, e, want)
		}
	}
	for _, size := range []int{0, 1, 255, 256, 60000} {
		host := strings.Repeat("\x00\xffh", size)[:size]
		for _, port := range []int{0, 1, 255, 256, 32768, 65535} {
			terms, e := checkFinish(t, client, asked(), bytesOf(record(7, body(port)...), protocol, record(6, []byte(host)...), algo, oneCookie(), end))
			if e != api.OK || terms.Host != host || terms.Port != port {
				t.Errorf("Finish is %q, %d and %v, want %q and %d", terms.Host, terms.Port, e, host, port)
			}
		}
	}
	if terms, e := checkFinish(t, client, asked(), bytesOf(protocol, algo, oneCookie(), end)); e != api.OK || terms.Host != "" || terms.Port != 0 {
		t.Errorf("Finish is %v and %v, want neither a Host nor a Port", terms, e)
	}
}

// Random responses of records around the known types, and answers with a changed byte.
func TestRandomResponses(t *testing.T) {
	random := rand.New(rand.NewSource(2104))
	client, server := ends(t)
	p := policy()
	p.Host, p.Port = "host", 4460
	answer := checkRespond(t, p, ring(t, 1, 1), server, asked(), nonces(2))
	for range 3000 {
		l := randomRecords(random, random.Intn(5))
		checkFinish(t, client, asked(), bytesOf(l...))
		l = append([]api.Record{must(1, 0, byte(random.Intn(3))), must(4, 0, byte(14+random.Intn(3))), oneCookie()}, l...)
		checkFinish(t, client, asked(), bytesOf(l...))
		b := bytes.Clone(answer)
		b[random.Intn(len(b))] = byte(random.Intn(256))
		checkFinish(t, client, asked(), b[:len(b)-random.Intn(2)*random.Intn(9)])
	}
}
