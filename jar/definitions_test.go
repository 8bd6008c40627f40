package jar_test

import (
	"bytes"
	"encoding/binary"
	"math"
	"math/rand"
	"slices"
	"testing"

	"sectime/aead"
	"sectime/api"
	"sectime/extension"
	"sectime/jar"
	"sectime/protect"
)

// The definitions of the chapter, with layer 6 and the library's numbers in bytes for questions, and layer 18 for answers, and the jars that are held against them.

const mostSent = 1 << 40

// counted are so many bytes from first on.
func counted(first, size int) []byte {
	b := make([]byte, size)
	for k := range b {
		b[k] = byte(first + k)
	}
	return b
}

// numbered is a cookie that differs from one with another number.
func numbered(n int) []byte {
	return append(binary.BigEndian.AppendUint32(nil, uint32(n)), counted(n*7, 100)...)
}

func cookies(l ...int) [][]byte {
	var list [][]byte
	for _, n := range l {
		list = append(list, numbered(n))
	}
	return list
}

// to are the numbers from 1 to n.
func to(n int) []int {
	var l []int
	for k := range n {
		l = append(l, k+1)
	}
	return l
}

func pair() api.Pair { return api.Pair{Up: counted(1, 32), Down: counted(101, 32)} }

func unique() []byte { return counted(200, 32) }

func nonce() []byte { return counted(50, 16) }

// some is a jar with the cookies of these numbers.
func some(l ...int) api.Jar {
	return api.Jar{Keys: pair(), Cookies: cookies(l...), Last: numbered(99), Network: 3, Sent: 5}
}

func cloned(j api.Jar) api.Jar {
	j.Keys = api.Pair{Up: bytes.Clone(j.Keys.Up), Down: bytes.Clone(j.Keys.Down)}
	list := j.Cookies
	j.Cookies = nil
	for _, b := range list {
		j.Cookies = append(j.Cookies, bytes.Clone(b))
	}
	j.Last = bytes.Clone(j.Last)
	return j
}

func samePair(a, b api.Pair) bool {
	return bytes.Equal(a.Up, b.Up) && bytes.Equal(a.Down, b.Down)
}

func sameJar(a, b api.Jar) bool {
	return samePair(a.Keys, b.Keys) && slices.EqualFunc(a.Cookies, b.Cookies, bytes.Equal) && bytes.Equal(a.Last, b.Last) && a.Network == b.Network && a.Sent == b.Sent
}

func samePacket(a, b api.Packet) bool {
	return a.Head == b.Head && extension.Same(a.Plain, b.Plain) && extension.Same(a.Secret, b.Secret) && a.Guarded == b.Guarded
}

// jars are valid: with every number of cookies, and the bounds of all else.
func jars() []api.Jar {
	var l []api.Jar
	for count := range 9 {
		for _, last := range [][]byte{nil, {}, numbered(99), make([]byte, 104)} {
			for _, sent := range []int{0, 1, mostSent - 1, mostSent} {
				for _, network := range []int{0, 1, 3, math.MaxInt} {
					l = append(l, api.Jar{Keys: pair(), Cookies: cookies(to(count)...), Last: last, Network: network, Sent: sent})
				}
			}
		}
	}
	return l
}

// badJars are not valid, each for one reason.
func badJars() []api.Jar {
	l := []api.Jar{{}, {Keys: pair(), Cookies: cookies(1, 2, 3, 4, 5, 6, 7, 8, 9)}, {Keys: pair(), Cookies: cookies(to(300)...)}}
	add := func(change func(j *api.Jar)) {
		j := some(1, 2, 3)
		change(&j)
		l = append(l, j)
	}
	for _, size := range []int{0, 1, 16, 31, 33, 64} {
		add(func(j *api.Jar) { j.Keys.Up = counted(1, size) })
		add(func(j *api.Jar) { j.Keys.Down = counted(1, size) })
	}
	for _, size := range []int{0, 1, 4, 103, 105, 208} {
		for k := range 3 {
			add(func(j *api.Jar) { j.Cookies[k] = counted(1, size) })
		}
		if size > 0 {
			add(func(j *api.Jar) { j.Last = counted(1, size) })
		}
	}
	for k := range 3 {
		for other := range k {
			add(func(j *api.Jar) { j.Cookies[k] = bytes.Clone(j.Cookies[other]) })
		}
		add(func(j *api.Jar) { j.Last = bytes.Clone(j.Cookies[k]) })
	}
	for _, n := range []int{-1, math.MinInt} {
		add(func(j *api.Jar) { j.Network = n })
		add(func(j *api.Jar) { j.Sent = n })
	}
	for _, n := range []int{mostSent + 1, math.MaxInt} {
		add(func(j *api.Jar) { j.Sent = n })
	}
	return l
}

// randomJar is valid or not; its cookies and those of randomCookies are of few kinds, so that some are the same.
func randomJar(r *rand.Rand) api.Jar {
	j := api.Jar{Keys: pair(), Network: r.Intn(3), Sent: r.Intn(3)}
	for _, n := range r.Perm(14)[:r.Intn(9)] {
		j.Cookies = append(j.Cookies, numbered(n))
	}
	if r.Intn(3) > 0 {
		j.Last = numbered(r.Intn(28))
	}
	if r.Intn(10) == 0 {
		j.Cookies = append(j.Cookies, numbered(r.Intn(14)))
	}
	return j
}

func randomCookies(r *rand.Rand) [][]byte {
	var l [][]byte
	for range r.Intn(14) {
		l = append(l, numbered(r.Intn(28)))
	}
	if len(l) > 0 && r.Intn(20) == 0 {
		l[r.Intn(len(l))] = counted(1, 103+2*r.Intn(2))
	}
	return l
}

func standardValid(j api.Jar) bool {
	if len(j.Keys.Up) != 32 || len(j.Keys.Down) != 32 || len(j.Cookies) > 8 {
		return false
	}
	all := slices.Clone(j.Cookies)
	if len(j.Last) > 0 {
		all = append(all, j.Last)
	}
	places := map[string]int{}
	for k, b := range all {
		places[string(b)] = k
		if len(b) != 104 {
			return false
		}
	}
	return len(places) == len(all) && j.Network >= 0 && j.Sent >= 0 && j.Sent <= mostSent
}

func areCookies(l [][]byte) bool {
	return !slices.ContainsFunc(l, func(b []byte) bool { return len(b) != 104 })
}

func standardNew(terms api.Terms, network int) (api.Jar, api.Errno) {
	switch {
	case len(terms.Keys.Up) != 32 || len(terms.Keys.Down) != 32:
		return api.Jar{}, api.ErrKey
	case network < 0:
		return api.Jar{}, api.ErrRange
	case !areCookies(terms.Cookies):
		return api.Jar{}, api.ErrForm
	case len(terms.Cookies) > 8:
		return api.Jar{}, api.ErrLimit
	case len(terms.Cookies) == 0:
		return api.Jar{}, api.ErrNone
	}
	return api.Jar{Keys: terms.Keys, Cookies: distinct(terms.Cookies, nil), Network: network}, api.OK
}

// distinct are the bytes of l but these, each once.
func distinct(l [][]byte, but []byte) [][]byte {
	var list [][]byte
	seen := map[string]bool{string(but): true}
	for _, b := range l {
		if !seen[string(b)] {
			list = append(list, b)
		}
		seen[string(b)] = true
	}
	return list
}

func standardTake(j api.Jar) (api.Jar, []byte, api.Errno) {
	switch {
	case !standardValid(j):
		return api.Jar{}, nil, api.ErrForm
	case len(j.Cookies) == 0:
		return api.Jar{}, nil, api.ErrNone
	case j.Sent == mostSent:
		return api.Jar{}, nil, api.ErrState
	}
	return api.Jar{Keys: j.Keys, Cookies: j.Cookies[1:], Last: j.Cookies[0], Network: j.Network, Sent: j.Sent + 1}, j.Cookies[0], api.OK
}

func standardPut(j api.Jar, l [][]byte) (api.Jar, api.Errno) {
	if !standardValid(j) || !areCookies(l) {
		return api.Jar{}, api.ErrForm
	}
	j.Cookies = distinct(slices.Concat(j.Cookies, l), j.Last)
	j.Cookies = j.Cookies[:min(8, len(j.Cookies))]
	return j, api.OK
}

func standardMove(j api.Jar, network int) (api.Jar, api.Errno) {
	if !standardValid(j) {
		return api.Jar{}, api.ErrForm
	}
	if network < 0 {
		return api.Jar{}, api.ErrRange
	}
	if network == j.Network {
		return j, api.OK
	}
	return api.Jar{Keys: j.Keys, Cookies: j.Cookies, Network: network, Sent: j.Sent}, api.OK
}

// fieldBytes are the bytes of a field whose data fill their last four.
func fieldBytes(kind int, data []byte) []byte {
	b := binary.BigEndian.AppendUint16(nil, uint16(kind))
	return append(binary.BigEndian.AppendUint16(b, uint16(4+len(data))), data...)
}

// standardAhead are the bytes of a question ahead of the field that protects.
func standardAhead(transmit uint64, unique, cookie []byte, placeholders int) []byte {
	b := append([]byte{0x23, 0, 6, 0}, make([]byte, 36)...)
	b = binary.BigEndian.AppendUint64(b, transmit)
	b = append(b, fieldBytes(0x0104, unique)...)
	b = append(b, fieldBytes(0x0204, cookie)...)
	return append(b, bytes.Repeat(fieldBytes(0x0304, make([]byte, 104)), placeholders)...)
}

// guarded are the bytes of a question with its field that protects, in which nothing but a tag is sealed.
func guarded(ahead, nonce, tag []byte) []byte {
	return slices.Concat(ahead, fieldBytes(0x0404, slices.Concat([]byte{0, 16, 0, 16}, nonce, tag)))
}

func standardQuestion(j api.Jar, transmit uint64, unique, nonce []byte) (api.Jar, []byte, api.Errno) {
	if !standardValid(j) || len(unique) != 32 || len(nonce) != 16 {
		return api.Jar{}, nil, api.ErrForm
	}
	next, b, e := standardTake(j)
	if e != api.OK {
		return api.Jar{}, nil, e
	}
	ahead := standardAhead(transmit, unique, b, 8-len(j.Cookies))
	tag, _ := aead.Seal(j.Keys.Up, [][]byte{ahead, nonce}, nil)
	return next, guarded(ahead, nonce, tag), api.OK
}

func standardAnswer(j api.Jar, unique, b []byte) (api.Jar, api.Packet, api.Errno) {
	if !standardValid(j) || len(unique) != 32 {
		return api.Jar{}, api.Packet{}, api.ErrForm
	}
	p, e := protect.Open(j.Keys.Down, b)
	if e != api.OK {
		return api.Jar{}, api.Packet{}, e
	}
	if p.Head.Mode != 4 {
		return api.Jar{}, api.Packet{}, api.ErrForm
	}
	named := 0
	for _, f := range p.Plain {
		if f.Type == 0x0104 && bytes.Equal(f.Data, unique) {
			named++
		} else if f.Type == 0x0104 {
			named += 2
		}
	}
	if named != 1 {
		return api.Jar{}, api.Packet{}, api.ErrState
	}
	var l [][]byte
	for _, f := range p.Secret {
		if f.Type == 0x0204 {
			l = append(l, f.Data)
		}
	}
	next, e := standardPut(j, l)
	if e != api.OK {
		return api.Jar{}, api.Packet{}, e
	}
	return next, p, api.OK
}

func checkValid(t *testing.T, j api.Jar) bool {
	t.Helper()
	want := standardValid(j)
	if jar.Valid(j) != want {
		t.Fatalf("Valid of %v is not %v", j, want)
	}
	return want
}

// checkNext says what a function that returns a jar must: a wanted one, which is valid unless there is an error.
func checkNext(t *testing.T, name string, j api.Jar, e api.Errno, want api.Jar, wanted api.Errno) {
	t.Helper()
	if e != wanted || !sameJar(j, want) {
		t.Fatalf("%s returns %v and %v, want %v and %v", name, j, e, want, wanted)
	}
	if jar.Valid(j) != (e == api.OK) {
		t.Fatalf("Valid of %v is not %v, which %s returned with %v", j, e == api.OK, name, e)
	}
}

func checkNew(t *testing.T, terms api.Terms, network int) (api.Jar, api.Errno) {
	t.Helper()
	want, wanted := standardNew(terms, network)
	j, e := jar.New(terms, network)
	checkNext(t, "New", j, e, want, wanted)
	return j, e
}

func checkTake(t *testing.T, j api.Jar) (api.Jar, []byte, api.Errno) {
	t.Helper()
	want, wantBytes, wanted := standardTake(j)
	next, b, e := jar.Take(j)
	checkNext(t, "Take", next, e, want, wanted)
	if !bytes.Equal(b, wantBytes) {
		t.Fatalf("Take of %v returns the cookie %x, want %x", j, b, wantBytes)
	}
	return next, b, e
}

func checkAgain(t *testing.T, j api.Jar) {
	t.Helper()
	want, wanted := j.Last, api.OK
	if !standardValid(j) {
		want, wanted = nil, api.ErrForm
	} else if len(j.Last) == 0 {
		wanted = api.ErrNone
	}
	if b, e := jar.Again(j); e != wanted || !bytes.Equal(b, want) {
		t.Fatalf("Again of %v is %x and %v, want %x and %v", j, b, e, want, wanted)
	}
}

func checkWant(t *testing.T, j api.Jar) {
	t.Helper()
	want, wanted := 8-len(j.Cookies), api.OK
	if !standardValid(j) {
		want, wanted = 0, api.ErrForm
	}
	if n, e := jar.Want(j); e != wanted || n != want {
		t.Fatalf("Want of %v is %d and %v, want %d and %v", j, n, e, want, wanted)
	}
}

func checkPut(t *testing.T, j api.Jar, l [][]byte) (api.Jar, api.Errno) {
	t.Helper()
	want, wanted := standardPut(j, l)
	next, e := jar.Put(j, l)
	checkNext(t, "Put", next, e, want, wanted)
	return next, e
}

func checkMove(t *testing.T, j api.Jar, network int) (api.Jar, api.Errno) {
	t.Helper()
	want, wanted := standardMove(j, network)
	next, e := jar.Move(j, network)
	checkNext(t, "Move", next, e, want, wanted)
	return next, e
}

func checkQuestion(t *testing.T, j api.Jar, transmit uint64, unique, nonce []byte) (api.Jar, []byte, api.Errno) {
	t.Helper()
	want, wantBytes, wanted := standardQuestion(j, transmit, unique, nonce)
	next, b, e := jar.Question(j, transmit, unique, nonce)
	checkNext(t, "Question", next, e, want, wanted)
	if !bytes.Equal(b, wantBytes) {
		t.Fatalf("Question of %v is %x, want %x", j, b, wantBytes)
	}
	return next, b, e
}

func checkAnswer(t *testing.T, j api.Jar, unique, b []byte) (api.Jar, api.Packet, api.Errno) {
	t.Helper()
	want, wantPacket, wanted := standardAnswer(j, unique, b)
	next, p, e := jar.Answer(j, unique, b)
	checkNext(t, "Answer", next, e, want, wanted)
	if !samePacket(p, wantPacket) {
		t.Fatalf("Answer of %v to %x is %v, want %v", j, b, p, wantPacket)
	}
	return next, p, e
}
