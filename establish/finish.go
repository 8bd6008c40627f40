package establish

import (
	"slices"

	"sectime/api"
	"sectime/channel"
	"sectime/octets"
)

// Finish returns what a server's response to a client's request says.
func Finish(c api.Channel, request, response []byte) (api.Terms, api.Errno) {
	if !channel.Valid(c) {
		return api.Terms{}, api.ErrForm
	}
	offer, ok := readRequest(request)
	if !ok {
		return api.Terms{}, api.ErrForm
	}
	m, ok := read(response)
	if !ok {
		return api.Terms{}, api.ErrForm
	}
	if m.isStrange() {
		return api.Terms{}, api.ErrName
	}
	if m.has(api.RecError) {
		return api.Terms{}, api.ErrState
	}
	return terms(c, offer, m)
}

// readRequest returns the message whose bytes are b; false if Request does not return them.
func readRequest(b []byte) (message, bool) {
	m, ok := read(b)
	if !ok {
		return nil, false
	}
	again, e := Request(m.numbers(api.RecProtocol), m.numbers(api.RecAlgo))
	return m, e == api.OK && octets.Same(again, b)
}

// terms returns what a response without an error says to an offer.
func terms(c api.Channel, offer, m message) (api.Terms, api.Errno) {
	protocol, ok := taken(offer, m, api.RecProtocol)
	algo, both := taken(offer, m, api.RecAlgo)
	if !ok || !both || !m.has(api.RecCookie) {
		return api.Terms{}, api.ErrNone
	}
	cookies, e := m.cookies()
	if e != api.OK {
		return api.Terms{}, e
	}
	// Keys has no error: the channel was checked, and both numbers have two bytes.
	pair, _ := Keys(c, protocol, algo)
	return api.Terms{
		Protocol: protocol,
		Algo:     algo,
		Keys:     pair,
		Cookies:  cookies,
		Host:     string(m.body(api.RecServer)),
		Port:     int(octets.Get(m.body(api.RecPort))),
	}, api.OK
}

// taken returns the only number in the record of this type, if it is one of those that were offered.
func taken(offer, m message, kind int) (int, bool) {
	l := m.numbers(kind)
	if len(l) != 1 || !slices.Contains(offer.numbers(kind), l[0]) {
		return 0, false
	}
	return l[0], true
}

// cookies returns the Bodies of all records with cookies, in order.
func (m message) cookies() ([][]byte, api.Errno) {
	if len(m[api.RecCookie]) > api.MaxCookies {
		return nil, api.ErrLimit
	}
	var l [][]byte
	for _, r := range m[api.RecCookie] {
		if len(r.Body) != api.CookieSize {
			return nil, api.ErrForm
		}
		l = append(l, r.Body)
	}
	return l, api.OK
}
