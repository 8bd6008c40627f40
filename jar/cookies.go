package jar

import (
	"slices"

	"sectime/api"
	"sectime/octets"
)

// areKeys reports whether both keys of a pair have the length of a key.
func areKeys(p api.Pair) bool {
	return len(p.Up) == api.KeySize && len(p.Down) == api.KeySize
}

// isCookie reports whether b has as many bytes as every cookie.
func isCookie(b []byte) bool {
	return len(b) == api.CookieSize
}

// areCookies reports whether all of l have as many bytes as every cookie.
func areCookies(l [][]byte) bool {
	for _, b := range l {
		if !isCookie(b) {
			return false
		}
	}
	return true
}

// has reports whether b is one of l.
func has(l [][]byte, b []byte) bool {
	return slices.ContainsFunc(l, func(other []byte) bool { return octets.Same(other, b) })
}

// filled returns j, whose list may be extended, with those of the cookies that are new to it, as far as it has room.
func filled(j api.Jar, cookies [][]byte) api.Jar {
	for _, b := range cookies {
		if len(j.Cookies) == api.MaxCookies {
			break
		}
		// The last cookie was sent already, and whoever saw it would know the client again.
		if !has(j.Cookies, b) && !octets.Same(j.Last, b) {
			j.Cookies = append(j.Cookies, octets.Join(b))
		}
	}
	return j
}

// copied returns j in memory of its own.
func copied(j api.Jar) api.Jar {
	j.Keys = api.Pair{Up: octets.Join(j.Keys.Up), Down: octets.Join(j.Keys.Down)}
	j.Last = octets.Join(j.Last)
	list := make([][]byte, 0, api.MaxCookies)
	for _, b := range j.Cookies {
		list = append(list, octets.Join(b))
	}
	j.Cookies = list
	return j
}
