package octets_test

import (
	"bytes"
	"math"
	"slices"
	"testing"

	"sectime/api"
	"sectime/octets"
)

func sameFields(a, b []api.Field) bool {
	return slices.EqualFunc(a, b, func(x, y api.Field) bool {
		return x.Type == y.Type && bytes.Equal(x.Data, y.Data)
	})
}

func TestFieldsAndWrite(t *testing.T) {
	long := bytes.Repeat([]byte{9}, 300)
	for _, c := range []struct {
		l []api.Field
		b []byte
	}{
		{nil, nil},
		{[]api.Field{}, []byte{}},
		{[]api.Field{{}}, []byte{0, 0, 0, 0}},
		{[]api.Field{{}, {}}, make([]byte, 8)},
		{[]api.Field{{Type: 0x0102, Data: []byte{7, 8, 9}}}, []byte{1, 2, 0, 3, 7, 8, 9}},
		{[]api.Field{{Type: 65535, Data: []byte{1}}, {}, {Type: 1, Data: []byte{0, 0}}}, []byte{255, 255, 0, 1, 1, 0, 0, 0, 0, 0, 1, 0, 2, 0, 0}},
		{[]api.Field{{Type: 4, Data: long}}, append([]byte{0, 4, 1, 44}, long...)},
	} {
		if b, e := octets.Write(c.l); e != api.OK || !bytes.Equal(b, c.b) {
			t.Errorf("Write(%v) = %v, %v, want %v", c.l, b, e, c.b)
		}
		if l, e := octets.Fields(c.b); e != api.OK || !sameFields(l, c.l) {
			t.Errorf("Fields(%v) = %v, %v, want %v", c.b, l, e, c.l)
		}
	}
}

func TestLongestMessage(t *testing.T) {
	empty := make([]api.Field, api.MaxMessage/4)
	l := append(empty[:len(empty)-1:len(empty)-1], api.Field{Type: 3, Data: []byte{1, 2, 3}})
	for _, l := range [][]api.Field{l, {{Type: 5, Data: make([]byte, api.MaxMessage-4)}}} {
		b, e := octets.Write(l)
		if e != api.OK || len(b) != api.MaxMessage {
			t.Fatalf("Write returns %d bytes and %v, want all %d", len(b), e, api.MaxMessage)
		}
		if back, e := octets.Fields(b); e != api.OK || !sameFields(back, l) {
			t.Errorf("Fields does not undo Write of %d fields: %d fields and %v", len(l), len(back), e)
		}
	}
}

func TestWriteErrors(t *testing.T) {
	long := make([]byte, 65536)
	for k, c := range []struct {
		l    []api.Field
		want api.Errno
	}{
		{[]api.Field{{Type: -1}}, api.ErrRange},
		{[]api.Field{{Type: 65536}}, api.ErrRange},
		{[]api.Field{{Type: math.MinInt}}, api.ErrRange},
		{[]api.Field{{Type: math.MaxInt}}, api.ErrRange},
		{[]api.Field{{Type: -1, Data: long}}, api.ErrRange},
		{[]api.Field{{Data: long}}, api.ErrLong},
		{[]api.Field{{Data: long}, {Type: -1}}, api.ErrLong},
		{[]api.Field{{Type: 65536}, {Data: long}}, api.ErrRange},
		{[]api.Field{{}, {Type: 9, Data: []byte{1}}, {Type: 65536}}, api.ErrRange},
		// An error of a field comes before that of all bytes, wherever the field stands.
		{[]api.Field{{Data: long[:65535]}, {Data: long[:65535]}, {Type: -1}}, api.ErrRange},
		{[]api.Field{{Data: long[:65535]}}, api.ErrLong},
		{[]api.Field{{Data: long[:65532]}}, api.ErrLong},
		{[]api.Field{{Data: long[:65528]}, {}}, api.ErrLong},
		{make([]api.Field, 16384), api.ErrLong},
	} {
		if b, e := octets.Write(c.l); e != c.want || len(b) != 0 {
			t.Errorf("Write, case %d: %d bytes and %v, want none and %v", k, len(b), e, c.want)
		}
	}
}

func TestFieldsErrors(t *testing.T) {
	for _, c := range []struct {
		b    []byte
		want api.Errno
	}{
		{[]byte{0}, api.ErrShort},
		{[]byte{0, 1, 0}, api.ErrShort},
		{[]byte{0, 1, 0, 1}, api.ErrShort},
		{[]byte{0, 1, 1, 0, 5}, api.ErrShort},
		{[]byte{0, 1, 255, 255, 5, 6}, api.ErrShort},
		{[]byte{0, 1, 0, 1, 5, 0}, api.ErrShort},
		{[]byte{0, 1, 0, 1, 5, 0, 2, 0, 1}, api.ErrShort},
		{append([]byte{0, 1, 255, 252}, make([]byte, 65531)...), api.ErrShort},
		{append([]byte{0, 1, 255, 252}, make([]byte, 65532)...), api.ErrLong},
		{make([]byte, 65536), api.ErrLong},
		{make([]byte, 65537), api.ErrLong},
	} {
		if l, e := octets.Fields(c.b); e != c.want || len(l) != 0 {
			t.Errorf("Fields of %d bytes: %v and %v, want none and %v", len(c.b), l, e, c.want)
		}
	}
}

// Whatever bytes Fields accepts, Write returns them again: all strings of up to 9 bytes from 0 to 2.
func TestWriteUndoesFields(t *testing.T) {
	accepted := 0
	strings := [][]byte{nil}
	for k := 0; k < len(strings); k++ {
		b := strings[k]
		if len(b) < 9 {
			for x := range byte(3) {
				strings = append(strings, append(bytes.Clone(b), x))
			}
		}
		l, e := octets.Fields(b)
		if e != api.OK {
			continue
		}
		accepted++
		if back, e := octets.Write(l); e != api.OK || !bytes.Equal(back, b) {
			t.Fatalf("Write of Fields of %v is %v, %v", b, back, e)
		}
	}
	// Nothing; a field with 0, 1 or 2 bytes and, in what is left, a second one.
	if want := 1 + 9*(1+3+9) + 81*(1+3+3); accepted != want {
		t.Errorf("Fields accepts %d strings, want %d", accepted, want)
	}
}

func TestMemoryOfFields(t *testing.T) {
	l := []api.Field{{Type: 1, Data: spare([]byte{1, 2, 3})}, {Type: 2, Data: spare([]byte{4, 5})}}
	b, _ := octets.Write(l)
	want := bytes.Clone(b)
	spoil(b)
	if again, e := octets.Write(l); e != api.OK || !bytes.Equal(again, want) {
		t.Errorf("Write shares memory with its argument: %v and %v, want %v", again, e, want)
	}

	b = spare(want)
	room := bytes.Clone(b[:cap(b)])
	fields, _ := octets.Fields(b)
	spoil(fields[0].Data)
	if !bytes.Equal(fields[1].Data, []byte{4, 5}) {
		t.Error("Data of two fields share memory")
	}
	spoil(fields[1].Data)
	if !bytes.Equal(b[:cap(b)], room) {
		t.Error("Fields shares memory with its argument, or changes it")
	}
}
