package establish

import (
	"slices"

	"sectime/api"
)

const lastKnown = api.RecPort // all types up to this one are known

// message is a well-formed message: its records by their types, those of one type in their order.
type message map[int][]api.Record

// read returns the message whose bytes are b; false if it is not well formed.
func read(b []byte) (message, bool) {
	l, e := Decode(b)
	if e != api.OK || len(l) == 0 || l[len(l)-1].Type != api.RecEnd {
		return nil, false
	}
	m := message{}
	for _, r := range l {
		m[r.Type] = append(m[r.Type], r)
	}
	for kind, same := range m {
		if !fits(kind, same) {
			return nil, false
		}
	}
	return m, true
}

// fits reports whether a well-formed message can have these records, which are all of this type, at least one.
func fits(kind int, l []api.Record) bool {
	body := l[0].Body
	switch kind {
	case api.RecEnd:
		return len(l) == 1 && len(body) == 0
	case api.RecProtocol, api.RecAlgo:
		_, ok := Numbers(body)
		return len(l) == 1 && ok
	case api.RecServer:
		return len(l) == 1
	case api.RecPort:
		return len(l) == 1 && len(body) == numberSize
	}
	return true
}

// has reports whether a message has a record of this type.
func (m message) has(kind int) bool {
	return len(m[kind]) > 0
}

// isStrange reports whether a message has a critical record of a type that is not known.
func (m message) isStrange() bool {
	for kind, l := range m {
		if kind > lastKnown && slices.ContainsFunc(l, func(r api.Record) bool { return r.Critical }) {
			return true
		}
	}
	return false
}

// body returns the Body of the only record of this type, or nothing if there is none.
func (m message) body(kind int) []byte {
	if !m.has(kind) {
		return nil
	}
	return m[kind][0].Body
}

// numbers returns the numbers in this Body.
func (m message) numbers(kind int) []int {
	// It has whole numbers, as the message is well formed.
	l, _ := Numbers(m.body(kind))
	return l
}
