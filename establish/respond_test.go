package establish_test

import (
	"bytes"
	"math"
	"math/rand"
	"slices"
	"strings"
	"testing"

	"sectime/api"
	"sectime/cookie"
	"sectime/establish"
)

// known is an establishment that another program has computed, with the HKDF and the AES-SIV of OpenSSL.
type known struct {
	secret, hello     []byte
	id, seed          int
	protocols, algos  []int
	policy            api.Policy
	nonces            [][]byte
	protocol, algo    int
	request, up, down string
	answer            string
}

func knowns() []known {
	return []known{
		{
			counted(0x30, 16), nil, 0, 0x40,
			[]int{0}, []int{15}, api.Policy{Protocols: []int{0}, Algos: []int{15}}, [][]byte{counted(0xa0, 16)}, 0, 15,
			"80010002000080040002000f80000000", "8103cd968f17ba48d9a04f58d24c07b1a1c9c411476fe54a0ddcb48b7ea5004f", "ec4bf68a0c649fbc8804a9f5b108b5dd8b91042559e450b793357039f6038327",
			"80010002000080040002000f0005006800000000a0a1a2a3a4a5a6a7a8a9aaabacadaeafbf5cc556a0a001e9a3b22b586c6f9859661c0bd2925f904cb6d9ae4c8ceb38cca0879e06687845acb2f20d4c4c26672ef87e14bca6ca9f7003c9901099aaaa14d6034d6947f0ea2c8bd187fe28dea17b4f6ce9cf80000000",
		},
		{
			counted(0x80, 32), []byte("hello of the client and hello of the server"), 1<<32 - 1, 0x40,
			[]int{7, 0}, []int{30, 15}, api.Policy{Protocols: []int{0}, Algos: []int{15, 30}, Host: "time.example", Port: 4460}, [][]byte{counted(1, 16), counted(2, 16)}, 0, 30,
			"800100040007000080040004001e000f80000000", "2d5588ab5ec7ab1421ff52d3b6572ca5ab3fda7e6b4ac28315b471c6df1e0b2b", "2926ccce78c19e7fba8cbec57870bc984f8dca84bc93f876a66e9f931ec04fdb",
			"80010002000080040002001e00050068ffffffff0102030405060708090a0b0c0d0e0f101715de61cad7f4956b557276a3abb3bdddfe00732252a9483162aebf08e57cad718f4a1b234d85552cd710dc8762a027e77b1a1a4dc24745cde038ecc29b658fe53137c796b00e23cdc17f5632f5316c307977a300050068ffffffff02030405060708090a0b0c0d0e0f1011317a25e87bb274d257c583cccc3d98993e258e8f86d03c1c8b3d8a6bb1b2856068e3854a463058f1c7554af63864346e4f143cbffca6d87c34aa8df9245f5ff8b2f60cd82ef3aac27fc9eb784ede35bba8fc8a828006000c74696d652e6578616d706c6580070002116c80000000",
		},
		{
			counted(1, 100), counted(0, 300), 0x01020304, 0x50,
			[]int{258, 65535}, []int{65534, 1, 65533}, api.Policy{Protocols: []int{65535, 0}, Algos: []int{2, 65533, 3}, Port: 1}, [][]byte{counted(0xf8, 16)}, 65535, 65533,
			"800100040102ffff80040006fffe0001fffd80000000", "d7e44e4223ce058f79b3b40238e813cabec3fb7b21c461ed007f0cc99e44dde6", "d5b8bc4ba1407599705a972fe0ebf97ce23ad2d4b339370ed22034e6896fb285",
			"80010002ffff80040002fffd0005006801020304f8f9fafbfcfdfeff0001020304050607171894580859392e84ad57f44c2b5b84f61d416f0b97ab9d8ac384c2909786a3b00381d3485fdbecf107888cba2b3657983885aeb0b24107dcd35aff59e3ecd33811d0e053de9363c35defeb35814c78d7c5bd0380070002000180000000",
		},
	}
}

func TestKnownEstablishments(t *testing.T) {
	for k, w := range knowns() {
		client, server := begun(t, true, w.secret, w.hello), begun(t, false, w.secret, w.hello)
		r, _ := cookie.Start(w.id, counted(w.seed, 32))
		pair := api.Pair{Up: unhex(t, w.up), Down: unhex(t, w.down)}
		request, e := establish.Request(w.protocols, w.algos)
		if e != api.OK || hexOf(request) != w.request {
			t.Errorf("case %d: Request is %x and %v, want %s", k, request, e, w.request)
		}
		for _, c := range []api.Channel{client, server} {
			if p, e := establish.Keys(c, w.protocol, w.algo); e != api.OK || !samePair(p, pair) {
				t.Errorf("case %d: Keys is %v and %v, want %v", k, p, e, pair)
			}
		}
		answer, e := establish.Respond(w.policy, r, server, request, w.nonces)
		if e != api.OK || hexOf(answer) != w.answer {
			t.Errorf("case %d: Respond is %x and %v, want %s", k, answer, e, w.answer)
		}
		want := api.Terms{Protocol: w.protocol, Algo: w.algo, Keys: pair, Host: w.policy.Host, Port: w.policy.Port}
		at := 12 // behind the first two records
		for range w.nonces {
			want.Cookies = append(want.Cookies, unhex(t, w.answer)[at+4:at+108])
			at += 108
		}
		if got, e := establish.Finish(client, unhex(t, w.request), unhex(t, w.answer)); e != api.OK || !sameTerms(got, want) {
			t.Errorf("case %d: Finish is %v and %v, want %v", k, got, e, want)
		}
	}
}

// checkRespond compares Respond with the definition.
func checkRespond(t *testing.T, p api.Policy, r api.Ring, c api.Channel, request []byte, nonces [][]byte) []byte {
	t.Helper()
	b, e := establish.Respond(p, r, c, request, nonces)
	want, f := standardRespond(t, p, r, c, request, nonces)
	if e != f || !bytes.Equal(b, want) {
		t.Fatalf("Respond of %v, %d nonces and %x is %x and %v, want %x and %v", p, len(nonces), request, b, e, want, f)
	}
	return b
}

func policy() api.Policy {
	return api.Policy{Protocols: []int{0, 1}, Algos: []int{15, 16}}
}

// pool are records of which messages are made, well formed or not.
func pool() []api.Record {
	return []api.Record{
		must(0), record(0), must(0, 0), must(1, 0, 0), record(1), must(1, 0), must(4, 0, 15), record(4, 0, 9, 0, 16), must(4, 0, 15, 0),
		record(2), must(2, 0, 1), record(3), record(5, counted(1, 104)...), record(6, 'h'), must(6), must(7, 1, 2), record(7, 1), record(7), record(7, 0, 1, 2),
		record(8), must(8), must(32767, 1), record(32767),
	}
}

// Requests of all sorts: each list of up to 3 records of the pool, and each pair of them beside what a request needs, in several orders.
func TestForms(t *testing.T) {
	_, server := ends(t)
	r, p, n := ring(t, 1, 1), policy(), nonces(1)
	check := func(l ...api.Record) { checkRespond(t, p, r, server, bytesOf(l...), n) }
	protocol, algo, end := must(1, 0, 1, 0, 0), must(4, 0, 16), must(0)
	check()
	check(protocol, algo, end)
	for _, a := range pool() {
		check(a)
		check(a, end)
		check(a, protocol, algo, end)
		check(protocol, a, algo, end)
		check(protocol, algo, a, end)
		check(protocol, algo, a)
		check(protocol, algo, end, a)
		for _, b := range pool() {
			check(a, b)
			check(a, b, protocol, algo, end)
			check(b, algo, a, protocol, end)
			check(protocol, a, algo, b)
			for _, c := range pool() {
				check(a, b, c)
			}
		}
	}
}

// What is checked of a request, each with the code that it has, where nothing later is right either.
func TestCodes(t *testing.T) {
	_, server := ends(t)
	good := bytesOf(must(1, 0, 0), must(4, 0, 15), must(0))
	protocol, algo, end, strange := must(1, 0, 0), must(4, 0, 15), must(0), must(8)
	requests := []struct {
		b    []byte
		code int // -1: none
	}{
		{nil, 1}, {good[:5], 1}, {good[:len(good)-1], 1}, {append(bytes.Clone(good), 0), 1},
		{make([]byte, 65536), 1}, {bytesOf(append(slices.Repeat([]api.Record{record(9)}, 62), protocol, algo, end)...), 1},
		{bytesOf(protocol, algo, strange), 1}, {bytesOf(protocol, algo, end, end), 1}, {bytesOf(end, protocol, algo), 1}, {bytesOf(end, protocol, algo, end), 1}, {bytesOf(protocol, algo, strange, must(0, 0, 0)), 1},
		{bytesOf(protocol, algo, end, strange), 1}, {bytesOf(protocol, algo, record(0), end), 1},
		{bytesOf(protocol, algo, protocol, strange, end), 1}, {bytesOf(protocol, algo, algo, strange, end), 1}, {bytesOf(protocol, algo, record(1), end), 1},
		{bytesOf(must(1, 0), algo, strange, end), 1}, {bytesOf(protocol, must(4, 1, 2, 3), strange, end), 1},
		{bytesOf(protocol, algo, record(6), record(6), end), 1}, {bytesOf(protocol, algo, record(7, 1, 2), must(7, 1, 2), strange, end), 1},
		{bytesOf(protocol, algo, record(7), end), 1}, {bytesOf(protocol, algo, record(7, 1), end), 1}, {bytesOf(protocol, algo, record(7, 1, 2, 3), end), 1}, {bytesOf(protocol, algo, must(7, 1, 2, 3, 4), strange, end), 1},
		{bytesOf(end), 1}, {bytesOf(protocol, end), 1}, {bytesOf(algo, end), 1}, {bytesOf(strange, algo, end), 1}, {bytesOf(protocol, strange, end), 1},
		{bytesOf(protocol, algo, record(2, 0, 0), strange, end), 1}, {bytesOf(protocol, algo, record(3), strange, end), 1}, {bytesOf(protocol, algo, record(5), strange, end), 1}, {bytesOf(protocol, algo, must(5), end), 1}, {bytesOf(must(3), protocol, algo, end), 1},
		{bytesOf(protocol, algo, strange, end), 0}, {bytesOf(must(32767, 1, 2, 3), protocol, algo, end), 0}, {bytesOf(protocol, record(8), algo, record(8), strange, record(8), end), 0}, {bytesOf(record(9), must(9), record(9), algo, protocol, end), 0},
		{good, -1}, {bytesOf(record(4, 0, 15), record(8, 1), record(6, 1, 2, 3), record(1, 0, 0), record(32767), record(7, 1, 2), record(8), record(0)), -1},
		{bytesOf(append(slices.Repeat([]api.Record{record(9)}, 61), protocol, algo, end)...), -1}, {bytesOf(must(1), must(4), end), -1},
		{bytesOf(must(1, make([]byte, 32768)...), must(4, make([]byte, 32000)...), end), -1},
	}
	for k, c := range requests {
		for _, n := range [][][]byte{nonces(1), nil, nonces(8), nonces(9), {counted(1, 15)}} {
			for _, host := range []string{"", strings.Repeat("h", 256)} {
				p, code := policy(), c.code
				p.Host = host
				if code < 0 && (host != "" || len(n) != 1 && len(n) != 8 || len(n[0]) != 16) {
					code = 2
				}
				b := checkRespond(t, p, ring(t, 1, 1), server, c.b, n)
				for _, one := range []int{0, 1, 2} {
					if bytes.Equal(b, failed(one)) != (code == one) {
						t.Errorf("case %d: Respond with %d nonces is %x, want the code %d", k, len(n), b, code)
					}
				}
			}
		}
	}
}

func TestKnownFailures(t *testing.T) {
	_, server := ends(t)
	good := bytesOf(must(1, 0, 0), must(4, 0, 15), must(0))
	for _, c := range []struct {
		request []byte
		nonces  [][]byte
		want    string
	}{
		{nil, nonces(1), "80020002000180000000"},
		{bytesOf(must(1, 0, 0), must(4, 0, 15), must(8), must(0)), nonces(1), "80020002000080000000"},
		{good, nil, "80020002000280000000"},
	} {
		if b, e := establish.Respond(policy(), ring(t, 1, 1), server, c.request, c.nonces); e != api.OK || hexOf(b) != c.want {
			t.Errorf("Respond of %x is %x and %v, want %s", c.request, b, e, c.want)
		}
	}
}

// Numbers and lengths of nonces, and lengths of the Host, around their limits.
func TestNoncesAndHosts(t *testing.T) {
	_, server := ends(t)
	r, good := ring(t, 1, 1), bytesOf(must(1, 0, 0), must(4, 0, 15), must(0))
	for n := range 20 {
		checkRespond(t, policy(), r, server, good, nonces(n))
		for place := range n {
			for _, size := range []int{0, 15, 17, 32} {
				l := nonces(n)
				l[place] = counted(1, size)
				if b := checkRespond(t, policy(), r, server, good, l); !bytes.Equal(b, failed(2)) {
					t.Fatalf("Respond with a nonce of %d bytes is %x", size, b)
				}
			}
		}
	}
	for size := range 40 {
		checkRespond(t, policy(), r, server, good, [][]byte{counted(1, size)})
	}
	for _, size := range []int{0, 1, 2, 100, 253, 254, 255, 256, 257, 300, 65535, 65536, 70000} {
		for _, port := range []int{0, 1, 255, 256, 4460, 65535} {
			p := policy()
			p.Host, p.Port = string(counted(200, size)), port
			checkRespond(t, p, r, server, good, nonces(8))
			checkRespond(t, p, r, server, bytesOf(must(1, 0, 9), must(4, 0, 15), must(0)), nonces(8))
			checkRespond(t, p, r, server, bytesOf(must(1, 0, 0), must(4, 0, 9), must(0)), nonces(8))
		}
	}
}

// All lists of up to 2 numbers of both sides: what there is for both, or for one, or for none.
func TestAgreement(t *testing.T) {
	_, server := ends(t)
	lists := [][]int{{}, {0}, {1}, {65535}, {0, 1}, {1, 0}, {1, 65535}, {0, 0}}
	r := ring(t, 1, 1)
	for _, protocols := range lists {
		for _, algos := range lists {
			request := bytesOf(must(1, body(protocols...)...), must(4, body(algos...)...), must(0))
			for _, p := range lists {
				for _, a := range lists {
					checkRespond(t, api.Policy{Protocols: p, Algos: a, Host: "h", Port: 5}, r, server, request, nonces(1))
				}
			}
		}
	}
	for k, c := range []struct {
		p    api.Policy
		want []byte
	}{
		{api.Policy{}, bytesOf(must(1), must(0))},
		{api.Policy{Algos: []int{15}}, bytesOf(must(1), must(0))},
		{api.Policy{Protocols: []int{9}, Algos: []int{15}, Port: 258}, bytesOf(must(1), must(7, 1, 2), must(0))},
		{api.Policy{Protocols: []int{9, 3}}, bytesOf(must(1, 0, 3), must(4), must(0))},
		{api.Policy{Protocols: []int{3}, Algos: []int{16}, Host: "h"}, bytesOf(must(1, 0, 3), must(4), must(6, 'h'), must(0))},
	} {
		if b := checkRespond(t, c.p, r, server, bytesOf(must(1, 0, 3), must(4, 0, 15), must(0)), nonces(1)); !bytes.Equal(b, c.want) {
			t.Errorf("case %d: Respond is %x, want %x", k, b, c.want)
		}
	}
}

// Any ring seals with its newest key, and any end of a channel has the same keys.
func TestRingsAndChannels(t *testing.T) {
	client, server := ends(t)
	busy := server
	busy.Sent, busy.Received = 5, 1<<40
	good := bytesOf(must(1, 0, 0), must(4, 0, 15), must(0))
	for keys := range 4 {
		for _, id := range []int{0, 7, 1<<32 - 1} {
			r := ring(t, id, keys+1)
			first := checkRespond(t, policy(), r, server, good, nonces(3))
			for _, c := range []api.Channel{client, busy} {
				if b := checkRespond(t, policy(), r, c, good, nonces(3)); !bytes.Equal(b, first) {
					t.Errorf("Respond is %x at another end, and %x at the first", b, first)
				}
			}
		}
	}
	// The same nonce may come twice.
	checkRespond(t, policy(), ring(t, 1, 1), server, good, [][]byte{counted(1, 16), counted(1, 16)})
}

// Lists of a policy may have any length.
func TestLongPolicies(t *testing.T) {
	_, server := ends(t)
	var many []int
	for n := range 65536 {
		many = append(many, 65535-n)
	}
	p := api.Policy{Protocols: many, Algos: append(many, many...)}
	checkRespond(t, p, ring(t, 1, 1), server, bytesOf(must(1, 0, 3, 0, 4), must(4, 0, 15), must(0)), nonces(1))
	p.Algos[len(p.Algos)-1] = 65536
	if e := respondError(t, p, ring(t, 1, 1), server); e != api.ErrRange {
		t.Errorf("Respond: %v, want ErrRange", e)
	}
}

// respondError is the error of Respond for a good request, a bad one and none, with nonces and without them.
func respondError(t *testing.T, p api.Policy, r api.Ring, c api.Channel) api.Errno {
	t.Helper()
	good := bytesOf(must(1, 0, 0), must(4, 0, 15), must(0))
	_, first := establish.Respond(p, r, c, good, nonces(1))
	for _, request := range [][]byte{good, nil, good[1:], bytesOf(must(1, 0, 0), must(4, 0, 15), must(8), must(0))} {
		for _, n := range []int{0, 1, 9} {
			b, e := establish.Respond(p, r, c, request, nonces(n))
			if e != first || e != api.OK && len(b) != 0 {
				t.Errorf("Respond of %v, %v and %v is %x and %v for one request, and %v for another", p, r, c, b, e, first)
			}
		}
	}
	return first
}

func TestRespondErrors(t *testing.T) {
	_, server := ends(t)
	var bad []api.Policy
	for _, n := range []int{-1, 65536, 65536 + 15, 1 << 32, math.MinInt, math.MaxInt} {
		bad = append(bad, api.Policy{Port: n}, api.Policy{Protocols: []int{n}}, api.Policy{Algos: []int{n}}, api.Policy{Protocols: []int{0}, Algos: []int{15}, Host: "h", Port: n})
		bad = append(bad, api.Policy{Protocols: []int{0, 1, n}, Algos: []int{15}}, api.Policy{Protocols: []int{0}, Algos: []int{15, n, 16}}, api.Policy{Protocols: []int{0}, Algos: []int{15, n}, Host: strings.Repeat("h", 256)})
	}
	good := []api.Policy{policy(), {}, {Protocols: []int{0, 65535}, Algos: []int{0, 65535}, Port: 65535}, {Host: strings.Repeat("h", 256)}}
	r := ring(t, 1, 2)
	for _, p := range append(good, bad...) {
		want := api.OK
		if slices.ContainsFunc(bad, func(q api.Policy) bool { return samePolicy(p, q) }) {
			want = api.ErrRange
		}
		if e := respondError(t, p, r, server); e != want {
			t.Errorf("Respond of %v: %v, want %v", p, e, want)
		}
		for _, c := range badChannels(t) {
			if e := respondError(t, p, r, c); e != api.ErrForm {
				t.Errorf("Respond with the channel %v: %v, want ErrForm", c, e)
			}
		}
		for _, s := range badRings(t) {
			if e := respondError(t, p, s, server); e != api.ErrForm {
				t.Errorf("Respond with the ring %v: %v, want ErrForm", s, e)
			}
		}
	}
	if e := respondError(t, policy(), api.Ring{}, api.Channel{}); e != api.ErrForm {
		t.Errorf("Respond with neither channel nor ring: %v, want ErrForm", e)
	}
}

func samePolicy(a, b api.Policy) bool {
	return slices.Equal(a.Protocols, b.Protocols) && slices.Equal(a.Algos, b.Algos) && a.Host == b.Host && a.Port == b.Port
}

// Random requests of records around the known types.
func TestRandomRequests(t *testing.T) {
	random := rand.New(rand.NewSource(2102))
	_, server := ends(t)
	r := ring(t, 1, 1)
	for range 3000 {
		l := randomRecords(random, random.Intn(5))
		checkRespond(t, policy(), r, server, bytesOf(l...), nonces(1))
		l = append([]api.Record{must(1, 0, byte(random.Intn(3))), must(4, 0, byte(14+random.Intn(3)))}, l...)
		b := bytesOf(l...)
		checkRespond(t, policy(), r, server, b, nonces(1))
		b[random.Intn(len(b))] = byte(random.Intn(256))
		checkRespond(t, policy(), r, server, b, nonces(1))
	}
}
