package establish_test

import (
	"bytes"
	"crypto/hkdf"
	"crypto/sha256"
	"encoding/binary"
	"encoding/hex"
	"math/rand"
	"slices"
	"testing"

	"sectime/api"
	"sectime/channel"
	"sectime/cookie"
)

// The definitions of the chapter, with the library's HKDF and numbers in bytes, and layers 19 and 20.

// counted are so many bytes from first on.
func counted(first, size int) []byte {
	b := make([]byte, size)
	for k := range b {
		b[k] = byte(first + k)
	}
	return b
}

func unhex(t *testing.T, text string) []byte {
	t.Helper()
	b, err := hex.DecodeString(text)
	if err != nil {
		t.Fatal(err)
	}
	return b
}

func hexOf(b []byte) string { return hex.EncodeToString(b) }

// record is a record that is not critical.
func record(kind int, body ...byte) api.Record {
	return api.Record{Type: kind, Body: body}
}

// must is a critical record.
func must(kind int, body ...byte) api.Record {
	return api.Record{Critical: true, Type: kind, Body: body}
}

// body are numbers of 2 bytes each.
func body(l ...int) []byte {
	var b []byte
	for _, n := range l {
		b = binary.BigEndian.AppendUint16(b, uint16(n))
	}
	return b
}

// bytesOf are the bytes of records without errors, however many they are.
func bytesOf(l ...api.Record) []byte {
	var b []byte
	for _, r := range l {
		kind := uint16(r.Type)
		if r.Critical {
			kind |= 0x8000
		}
		b = binary.BigEndian.AppendUint16(b, kind)
		b = binary.BigEndian.AppendUint16(b, uint16(len(r.Body)))
		b = append(b, r.Body...)
	}
	return b
}

func sameRecords(a, b []api.Record) bool {
	return slices.EqualFunc(a, b, func(x, y api.Record) bool {
		return x.Critical == y.Critical && x.Type == y.Type && bytes.Equal(x.Body, y.Body)
	})
}

func standardEncode(l []api.Record) ([]byte, api.Errno) {
	for _, r := range l {
		switch {
		case r.Type < 0 || r.Type > 32767:
			return nil, api.ErrRange
		case len(r.Body) > 65535:
			return nil, api.ErrLong
		}
	}
	if len(l) > 64 {
		return nil, api.ErrLimit
	}
	if b := bytesOf(l...); len(b) <= 65535 {
		return b, api.OK
	}
	return nil, api.ErrLong
}

// standardDecode are the records in b: the first one, and those behind it.
func standardDecode(b []byte) ([]api.Record, api.Errno) {
	if len(b) > 65535 {
		return nil, api.ErrLong
	}
	var l []api.Record
	for rest := bytes.NewReader(b); rest.Len() > 0; {
		var head struct{ Kind, Size uint16 }
		if binary.Read(rest, binary.BigEndian, &head) != nil || rest.Len() < int(head.Size) {
			return nil, api.ErrShort
		}
		body := make([]byte, head.Size)
		rest.Read(body)
		l = append(l, api.Record{Critical: head.Kind&0x8000 != 0, Type: int(head.Kind & 0x7fff), Body: body})
	}
	if len(l) > 64 {
		return nil, api.ErrLimit
	}
	return l, api.OK
}

// all are the records of a type.
func all(l []api.Record, kind int) []api.Record {
	return slices.DeleteFunc(slices.Clone(l), func(r api.Record) bool { return r.Type != kind })
}

// numbersOf are the numbers in the first record of a type.
func numbersOf(l []api.Record, kind int) []int {
	var numbers []int
	for _, r := range all(l, kind)[:min(1, len(all(l, kind)))] {
		for k := 0; k+1 < len(r.Body); k += 2 {
			numbers = append(numbers, int(binary.BigEndian.Uint16(r.Body[k:])))
		}
	}
	return numbers
}

// standardRead are the records of a well-formed message.
func standardRead(b []byte) ([]api.Record, bool) {
	l, e := standardDecode(b)
	if e != api.OK {
		return nil, false
	}
	ends := all(l, 0)
	if len(ends) != 1 || len(ends[0].Body) > 0 || l[len(l)-1].Type != 0 {
		return nil, false
	}
	for _, kind := range []int{1, 4, 6, 7} {
		same := all(l, kind)
		if len(same) > 1 {
			return nil, false
		}
		if len(same) == 1 && (kind < 6 && len(same[0].Body)%2 == 1 || kind == 7 && len(same[0].Body) != 2) {
			return nil, false
		}
	}
	return l, true
}

// strange reports whether there is a critical record of a type that is not known.
func strange(l []api.Record) bool {
	return slices.ContainsFunc(l, func(r api.Record) bool { return r.Critical && r.Type > 7 })
}

func standardRequest(protocols, algos []int) ([]byte, api.Errno) {
	for _, n := range slices.Concat(protocols, algos) {
		if n < 0 || n > 65535 {
			return nil, api.ErrRange
		}
	}
	for _, n := range []int{len(protocols), len(algos)} {
		if n == 0 || n > 16 {
			return nil, api.ErrLimit
		}
	}
	return bytesOf(must(1, body(protocols...)...), must(4, body(algos...)...), must(0)), api.OK
}

// standardKeys is for a valid channel and numbers of 2 bytes.
func standardKeys(t *testing.T, c api.Channel, protocol, algo int) api.Pair {
	t.Helper()
	key := func(way byte) []byte {
		sum := sha256.Sum256(append(body(protocol, algo), way))
		b, err := hkdf.Expand(sha256.New, c.Secret, "sectime export\x00sectime keys\x00"+string(sum[:]), 32)
		if err != nil {
			t.Fatal(err)
		}
		return b
	}
	return api.Pair{Up: key(0), Down: key(1)}
}

func samePair(a, b api.Pair) bool {
	return bytes.Equal(a.Up, b.Up) && bytes.Equal(a.Down, b.Down)
}

// standardChoose is -1 if there is none.
func standardChoose(offered, supported []int) int {
	for _, n := range offered {
		for _, m := range supported {
			if n == m {
				return n
			}
		}
	}
	return -1
}

// failed is the answer that tells an error.
func failed(code int) []byte {
	return bytesOf(must(2, body(code)...), must(0))
}

// standardCode is the code of the answer; -1 if it tells no error.
func standardCode(p api.Policy, request []byte, nonces [][]byte) int {
	l, ok := standardRead(request)
	switch {
	case !ok, len(all(l, 1)) == 0, len(all(l, 4)) == 0, len(all(l, 2)) > 0, len(all(l, 3)) > 0, len(all(l, 5)) > 0:
		return 1
	case strange(l):
		return 0
	case len(nonces) == 0, len(nonces) > 8, slices.ContainsFunc(nonces, func(b []byte) bool { return len(b) != 16 }), len(p.Host) > 255:
		return 2
	}
	return -1
}

func standardRespond(t *testing.T, p api.Policy, r api.Ring, c api.Channel, request []byte, nonces [][]byte) ([]byte, api.Errno) {
	t.Helper()
	if !channel.Valid(c) || !cookie.Valid(r) {
		return nil, api.ErrForm
	}
	for _, n := range slices.Concat(p.Protocols, p.Algos, []int{p.Port}) {
		if n < 0 || n > 65535 {
			return nil, api.ErrRange
		}
	}
	if code := standardCode(p, request, nonces); code >= 0 {
		return failed(code), api.OK
	}
	asked, _ := standardRead(request)
	protocol, algo := standardChoose(numbersOf(asked, 1), p.Protocols), standardChoose(numbersOf(asked, 4), p.Algos)
	var l []api.Record
	switch {
	case protocol < 0:
		l = []api.Record{must(1)}
	case algo < 0:
		l = []api.Record{must(1, body(protocol)...), must(4)}
	default:
		l = []api.Record{must(1, body(protocol)...), must(4, body(algo)...)}
		for _, nonce := range nonces {
			b, e := cookie.Make(r, algo, standardKeys(t, c, protocol, algo), nonce)
			if e != api.OK {
				t.Fatalf("Make returns %v", e)
			}
			l = append(l, record(5, b...))
		}
	}
	if len(p.Host) > 0 {
		l = append(l, must(6, []byte(p.Host)...))
	}
	if p.Port > 0 {
		l = append(l, must(7, body(p.Port)...))
	}
	return bytesOf(append(l, must(0))...), api.OK
}

// isRequest reports whether there are lists for which Request returns b.
func isRequest(b []byte) bool {
	l, e := standardDecode(b)
	if e != api.OK || len(l) != 3 {
		return false
	}
	want, e := standardRequest(numbersOf(l, 1), numbersOf(l, 4))
	return e == api.OK && bytes.Equal(b, want)
}

func standardFinish(t *testing.T, c api.Channel, request, response []byte) (api.Terms, api.Errno) {
	t.Helper()
	if !channel.Valid(c) || !isRequest(request) {
		return api.Terms{}, api.ErrForm
	}
	asked, _ := standardDecode(request)
	l, ok := standardRead(response)
	if !ok {
		return api.Terms{}, api.ErrForm
	}
	protocols, algos, cookies := numbersOf(l, 1), numbersOf(l, 4), all(l, 5)
	switch {
	case strange(l):
		return api.Terms{}, api.ErrName
	case len(all(l, 2)) > 0:
		return api.Terms{}, api.ErrState
	case len(protocols) != 1, len(algos) != 1, standardChoose(protocols, numbersOf(asked, 1)) < 0, standardChoose(algos, numbersOf(asked, 4)) < 0, len(cookies) == 0:
		return api.Terms{}, api.ErrNone
	case len(cookies) > 8:
		return api.Terms{}, api.ErrLimit
	}
	terms := api.Terms{Protocol: protocols[0], Algo: algos[0], Keys: standardKeys(t, c, protocols[0], algos[0])}
	for _, r := range cookies {
		if len(r.Body) != 104 {
			return api.Terms{}, api.ErrForm
		}
		terms.Cookies = append(terms.Cookies, r.Body)
	}
	for _, r := range all(l, 6) {
		terms.Host = string(r.Body)
	}
	for _, n := range numbersOf(l, 7) {
		terms.Port = n
	}
	return terms, api.OK
}

func sameTerms(a, b api.Terms) bool {
	return a.Protocol == b.Protocol && a.Algo == b.Algo && samePair(a.Keys, b.Keys) && slices.EqualFunc(a.Cookies, b.Cookies, bytes.Equal) && a.Host == b.Host && a.Port == b.Port
}

// begun is an end of a channel.
func begun(t *testing.T, client bool, secret, hello []byte) api.Channel {
	t.Helper()
	c, e := channel.Begin(client, secret, hello)
	if e != api.OK {
		t.Fatalf("Begin returns %v", e)
	}
	return c
}

// ends are both ends of a channel.
func ends(t *testing.T) (client, server api.Channel) {
	t.Helper()
	return begun(t, true, counted(0x30, 16), nil), begun(t, false, counted(0x30, 16), nil)
}

// ring is a ring with so many keys.
func ring(t *testing.T, id, keys int) api.Ring {
	t.Helper()
	r, e := cookie.Start(id, counted(0x40, 32))
	for range keys - 1 {
		r, e = cookie.Rotate(r)
	}
	if e != api.OK {
		t.Fatalf("the ring of %d keys: %v", keys, e)
	}
	return r
}

// nonces are n different ones.
func nonces(n int) [][]byte {
	var l [][]byte
	for k := range n {
		l = append(l, counted(k+1, 16))
	}
	return l
}

// badChannels are channels that are not valid.
func badChannels(t *testing.T) []api.Channel {
	t.Helper()
	client, server := ends(t)
	other, short, sent, received, turned := client, client, server, server, client
	other.Secret = counted(1, 32)
	short.Secret = short.Secret[1:]
	sent.Sent = -1
	received.Received = 1<<40 + 1
	turned.Client = false
	return []api.Channel{{}, {Client: true}, other, short, sent, received, turned, {Secret: client.Secret}}
}

// badRings are rings that are not valid.
func badRings(t *testing.T) []api.Ring {
	t.Helper()
	key := counted(1, 32)
	return []api.Ring{
		{},
		{Keys: []api.Master{{ID: 1}}},
		{Keys: []api.Master{{ID: -1, Key: key}}},
		{Keys: []api.Master{{ID: 1 << 32, Key: key}}},
		{Keys: []api.Master{{ID: 1, Key: key}, {ID: 1, Key: key}}},
		{Keys: []api.Master{{ID: 1, Key: key}, {ID: 2, Key: key[1:]}}},
		{Keys: []api.Master{{ID: 1, Key: key}, {ID: 2, Key: key}, {ID: 3, Key: key}, {ID: 4, Key: key}, {ID: 5, Key: key}}},
	}
}

// randomRecords are so many records with types around the known ones and short Bodies, the last one with the type 0.
func randomRecords(random *rand.Rand, n int) []api.Record {
	var l []api.Record
	for range n {
		b := make([]byte, random.Intn(5))
		random.Read(b)
		l = append(l, api.Record{Critical: random.Intn(2) == 0, Type: 1 + random.Intn(9), Body: b})
	}
	return append(l, must(0))
}
