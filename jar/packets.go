package jar

import (
	"sectime/api"
	"sectime/extension"
	"sectime/octets"
	"sectime/packet"
	"sectime/protect"
)

const (
	uniqueSize = 32 // bytes of the identifier by which an answer belongs to its question
	nonceSize  = 16 // bytes of the nonce of a question
	answerMode = 4  // of the header of an answer
)

// Question returns the jar without the cookie that it sends, and the bytes of a question with this cookie that asks for as many new ones as there is room for.
func Question(j api.Jar, transmit uint64, unique, nonce []byte) (api.Jar, []byte, api.Errno) {
	if !Valid(j) || len(unique) != uniqueSize || len(nonce) != nonceSize {
		return api.Jar{}, nil, api.ErrForm
	}
	next, cookie, e := Take(j)
	if e != api.OK {
		return api.Jar{}, nil, e
	}
	plain := []api.Field{{Type: api.ExtUnique, Data: unique}, {Type: api.ExtCookie, Data: cookie}}
	want, _ := Want(next)
	// The server sends a cookie for the one that it gets, without being asked.
	for range want - 1 {
		plain = append(plain, api.Field{Type: api.ExtPlaceholder, Data: make([]byte, api.CookieSize)})
	}
	// Protect has no error: the key and the nonce were checked, and with all placeholders there is room left.
	b, _ := protect.Protect(next.Keys.Up, api.Packet{Head: packet.Ask(transmit), Plain: plain}, nonce)
	return next, b, api.OK
}

// Answer returns the jar with the cookies of an answer to the question with this identifier, and the packet that the answer is.
func Answer(j api.Jar, unique, b []byte) (api.Jar, api.Packet, api.Errno) {
	if !Valid(j) || len(unique) != uniqueSize {
		return api.Jar{}, api.Packet{}, api.ErrForm
	}
	p, e := protect.Open(j.Keys.Down, b)
	if e != api.OK {
		return api.Jar{}, api.Packet{}, e
	}
	if p.Head.Mode != answerMode {
		return api.Jar{}, api.Packet{}, api.ErrForm
	}
	if !belongs(p.Plain, unique) {
		return api.Jar{}, api.Packet{}, api.ErrState
	}
	cookies, e := sealedCookies(p.Secret)
	if e != api.OK {
		return api.Jar{}, api.Packet{}, e
	}
	return filled(copied(j), cookies), p, api.OK
}

// belongs reports whether plain fields have one identifier, which is this one.
func belongs(plain []api.Field, unique []byte) bool {
	found := extension.Find(plain, api.ExtUnique)
	return len(found) == 1 && octets.Same(plain[found[0]].Data, unique)
}

// sealedCookies returns the cookies among sealed fields, in order.
func sealedCookies(secret []api.Field) (cookies [][]byte, e api.Errno) {
fields:
	for _, f := range secret {
		switch {
		case f.Type != api.ExtCookie:
			continue fields // fields of other types say nothing to a jar
		case !isCookie(f.Data):
			cookies, e = nil, api.ErrForm
			break fields
		}
		cookies = append(cookies, f.Data)
	}
	return cookies, e
}
