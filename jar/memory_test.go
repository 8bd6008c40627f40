package jar_test

import (
	"bytes"
	"testing"

	"sectime/api"
	"sectime/jar"
)

// roomy is the beginning of longer memory that no function may write to or show.
func roomy(b []byte) []byte {
	return append(bytes.Clone(b), counted(200, 100)...)[:len(b)]
}

// spoil changes all the memory of bytes, so that whatever shares it shows.
func spoil(b []byte) {
	b = b[:cap(b)]
	for k := range b {
		b[k] ^= 0xff
	}
}

// unspoilt reports whether bytes made by roomy, and those behind them, are still what they were.
func unspoilt(b, want []byte) bool {
	return bytes.Equal(b, want) && bytes.Equal(b[:len(b)+100][len(b):], counted(200, 100))
}

// roomyList is the beginning of a longer list of such bytes.
func roomyList(l [][]byte) [][]byte {
	list := [][]byte{}
	for _, b := range l {
		list = append(list, roomy(b))
	}
	return append(list, []byte{91}, []byte{92})[:len(l)]
}

func unspoiltList(l, want [][]byte) bool {
	for k, b := range l {
		if !unspoilt(b, want[k]) {
			return false
		}
	}
	behind := l[:len(l)+2][len(l):]
	return len(l) == len(want) && bytes.Equal(behind[0], []byte{91}) && bytes.Equal(behind[1], []byte{92})
}

func roomyJar(j api.Jar) api.Jar {
	j.Keys = api.Pair{Up: roomy(j.Keys.Up), Down: roomy(j.Keys.Down)}
	j.Cookies, j.Last = roomyList(j.Cookies), roomy(j.Last)
	return j
}

// checkJar reports what a function has done to a jar made by roomyJar.
func checkJar(t *testing.T, name string, j, want api.Jar) {
	t.Helper()
	if !sameJar(j, want) || !unspoilt(j.Keys.Up, want.Keys.Up) || !unspoilt(j.Keys.Down, want.Keys.Down) || !unspoiltList(j.Cookies, want.Cookies) || !unspoilt(j.Last, want.Last) {
		t.Fatalf("%s changes the jar, or shares memory with it: %v, want %v", name, j, want)
	}
}

// parts are all the bytes of a jar.
func parts(j api.Jar) [][]byte {
	return append([][]byte{j.Keys.Up, j.Keys.Down, j.Last}, j.Cookies...)
}

// packetParts are all the bytes of a packet.
func packetParts(p api.Packet) [][]byte {
	var l [][]byte
	for _, f := range append(p.Plain[:len(p.Plain):len(p.Plain)], p.Secret...) {
		l = append(l, f.Data)
	}
	return l
}

// checkApart spoils one part of a result after the other, and looks at those that are left.
func checkApart(t *testing.T, name string, l ...[]byte) {
	t.Helper()
	var wanted [][]byte
	for _, b := range l {
		wanted = append(wanted, bytes.Clone(b))
	}
	for k, b := range l {
		if !bytes.Equal(b, wanted[k]) {
			t.Fatalf("part %d of the result of %s shares memory with an earlier one", k, name)
		}
		spoil(b)
	}
}

// spoilList takes away all that stands in a list of a result, also behind its end.
func spoilList[E any](l []E) { clear(l[:cap(l)]) }

func memoryJars() []api.Jar {
	full, fresh := some(1, 2), some(1)
	full.Sent, fresh.Last = mostSent, nil
	return []api.Jar{some(), some(1), some(1, 2, 3), some(to(8)...), full, fresh}
}

func TestMemoryOfNew(t *testing.T) {
	for _, l := range [][][]byte{cookies(1), cookies(1, 2, 1, 3), cookies(to(8)...), cookies(to(9)...), {nil}, nil} {
		terms := api.Terms{Keys: api.Pair{Up: roomy(pair().Up), Down: roomy(pair().Down)}, Cookies: roomyList(l)}
		for _, network := range []int{3, 3, -1} {
			j, _ := checkNew(t, terms, network)
			checkApart(t, "New", parts(j)...)
			spoilList(j.Cookies)
			if !unspoilt(terms.Keys.Up, pair().Up) || !unspoilt(terms.Keys.Down, pair().Down) || !unspoiltList(terms.Cookies, l) {
				t.Fatal("New shares memory with the terms, or changes them")
			}
		}
	}
}

func TestMemoryOfTakeAndMove(t *testing.T) {
	for _, want := range memoryJars() {
		j := roomyJar(want)
		for range 2 {
			jar.Valid(j)
			jar.Want(j)
			checkJar(t, "Valid or Want", j, want)
			next, b, _ := checkTake(t, j)
			checkApart(t, "Take", append(parts(next), b)...)
			spoilList(next.Cookies)
			checkJar(t, "Take", j, want)
			checkAgain(t, j)
			b, _ = jar.Again(j)
			spoil(b)
			checkJar(t, "Again", j, want)
			for _, network := range []int{3, 4, -1} {
				next, _ := checkMove(t, j, network)
				checkApart(t, "Move", parts(next)...)
				spoilList(next.Cookies)
				checkJar(t, "Move", j, want)
			}
		}
	}
}

func TestMemoryOfPut(t *testing.T) {
	for _, want := range memoryJars() {
		for _, wanted := range [][][]byte{nil, cookies(1), cookies(50, 1, 51, 99, 50), cookies(to(20)...), {numbered(50), nil}} {
			j, l := roomyJar(want), roomyList(wanted)
			for range 2 {
				next, _ := checkPut(t, j, l)
				checkApart(t, "Put", parts(next)...)
				spoilList(next.Cookies)
				checkJar(t, "Put", j, want)
				if !unspoiltList(l, wanted) {
					t.Fatal("Put shares memory with the cookies, or changes them")
				}
			}
		}
	}
}

func TestMemoryOfQuestion(t *testing.T) {
	for _, want := range memoryJars() {
		j, id, n := roomyJar(want), roomy(unique()), roomy(nonce())
		for range 2 {
			next, b, _ := checkQuestion(t, j, 1, id, n)
			checkApart(t, "Question", append(parts(next), b)...)
			spoilList(next.Cookies)
			jar.Question(j, 1, id[:31], n)
			jar.Question(j, 1, id, n[:15])
			checkJar(t, "Question", j, want)
			if !unspoilt(id, unique()) || !unspoilt(n, nonce()) {
				t.Fatal("Question shares memory with an argument, or changes it")
			}
		}
	}
}

func TestMemoryOfAnswer(t *testing.T) {
	other, mode := answer(numbered(50), counted(1, 108)), answer(numbered(50))
	mode.Head.Mode = 3
	for _, want := range memoryJars() {
		for _, p := range []api.Packet{answer(cookies(50, 1, 51, 99)...), answer(), other, mode} {
			wanted := answerOf(t, p)
			j, id, b := roomyJar(want), roomy(unique()), roomy(wanted)
			for range 2 {
				next, got, _ := checkAnswer(t, j, id, b)
				checkApart(t, "Answer", append(parts(next), packetParts(got)...)...)
				spoilList(next.Cookies)
				spoilList(got.Plain)
				spoilList(got.Secret)
				jar.Answer(j, id[:31], b)
				jar.Answer(j, id, b[:len(b)-1])
				checkJar(t, "Answer", j, want)
				if !unspoilt(id, unique()) || !unspoilt(b, wanted) {
					t.Fatal("Answer shares memory with an argument, or changes it")
				}
			}
		}
	}
}

// Arguments may share memory with one another, and the results do not.
func TestMemoryOfSharedArguments(t *testing.T) {
	room := counted(0, 300)
	j := api.Jar{Keys: api.Pair{Up: room[:32], Down: room[:32]}, Cookies: [][]byte{room[:104], room[1:105], room[100:204]}, Last: room[50:154]}
	l := [][]byte{room[2:106], room[3:107], room[2:106]}
	for range 2 {
		next, b, e := checkTake(t, j)
		checkApart(t, "Take", append(parts(next), b)...)
		more, f := checkPut(t, j, l)
		checkApart(t, "Put", parts(more)...)
		first, g := checkNew(t, api.Terms{Keys: j.Keys, Cookies: append(l, j.Cookies...)}, 0)
		checkApart(t, "New", parts(first)...)
		moved, h := checkMove(t, j, 5)
		checkApart(t, "Move", parts(moved)...)
		if e != api.OK || f != api.OK || g != api.OK || h != api.OK || !bytes.Equal(room, counted(0, 300)) {
			t.Fatalf("the errors are %v, %v, %v and %v, or an argument was changed", e, f, g, h)
		}
	}
}
