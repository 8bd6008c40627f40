package establish

import (
	"sectime/api"
	"sectime/channel"
	"sectime/cookie"
)

const (
	maxHost   = 255 // bytes of a Host that a server names
	nonceSize = 16  // bytes of the nonce of a cookie
)

// Respond returns the bytes of a server's answer to a request.
func Respond(p api.Policy, r api.Ring, c api.Channel, request []byte, nonces [][]byte) ([]byte, api.Errno) {
	if !channel.Valid(c) || !cookie.Valid(r) {
		return nil, api.ErrForm
	}
	if !areNumbers(p.Protocols...) || !areNumbers(p.Algos...) || !areNumbers(p.Port) {
		return nil, api.ErrRange
	}
	m, ok := read(request)
	switch {
	case !ok || !m.isQuestion():
		return refusal(api.CodeRequest)
	case m.isStrange():
		return refusal(api.CodeCritical)
	case !areNonces(nonces) || len(p.Host) > maxHost:
		return refusal(api.CodeInternal)
	}
	l := append(agreed(p, r, c, m, nonces), place(p)...)
	// Encode has no error: there are few records, and all are short.
	return Encode(append(l, critical(api.RecEnd, nil)))
}

// isQuestion reports whether a message offers something, and has nothing in it that only a server says.
func (m message) isQuestion() bool {
	return m.has(api.RecProtocol) && m.has(api.RecAlgo) && !m.has(api.RecError) && !m.has(api.RecWarning) && !m.has(api.RecCookie)
}

// areNonces reports whether there is a cookie for each nonce, and not too many.
func areNonces(nonces [][]byte) bool {
	for _, nonce := range nonces {
		if len(nonce) != nonceSize {
			return false
		}
	}
	return len(nonces) >= 1 && len(nonces) <= api.MaxCookies
}

// refusal returns the bytes of an answer that tells nothing but an error.
func refusal(code int) ([]byte, api.Errno) {
	return Encode([]api.Record{critical(api.RecError, bodyOf(code)), critical(api.RecEnd, nil)})
}

// agreed returns the records with what is offered and supported, and the cookies if there is all that they need.
func agreed(p api.Policy, r api.Ring, c api.Channel, m message, nonces [][]byte) []api.Record {
	protocol, ok := Choose(m.numbers(api.RecProtocol), p.Protocols)
	if !ok {
		return []api.Record{critical(api.RecProtocol, nil)}
	}
	l := []api.Record{critical(api.RecProtocol, bodyOf(protocol))}
	algo, ok := Choose(m.numbers(api.RecAlgo), p.Algos)
	if !ok {
		return append(l, critical(api.RecAlgo, nil))
	}
	l = append(l, critical(api.RecAlgo, bodyOf(algo)))
	// Neither Keys nor Make has an error: the channel, the ring and the nonces were checked, and both numbers have two bytes.
	pair, _ := Keys(c, protocol, algo)
	for _, nonce := range nonces {
		b, _ := cookie.Make(r, algo, pair, nonce)
		l = append(l, api.Record{Type: api.RecCookie, Body: b})
	}
	return l
}

// place returns the records that say where the time server is, as far as it is elsewhere.
func place(p api.Policy) []api.Record {
	var l []api.Record
	if p.Host != "" {
		l = append(l, critical(api.RecServer, []byte(p.Host)))
	}
	if p.Port != 0 {
		l = append(l, critical(api.RecPort, bodyOf(p.Port)))
	}
	return l
}
