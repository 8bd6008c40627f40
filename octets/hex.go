package octets

const digits = "0123456789abcdef"

// Hex returns two digits for each byte.
func Hex(b []byte) string {
	text := make([]byte, 0, 2*len(b))
	for _, x := range b {
		text = append(text, digits[x>>4], digits[x&15])
	}
	return string(text)
}

// Unhex returns the bytes whose Hex is s, if there are any.
func Unhex(s string) ([]byte, bool) {
	if len(s)%2 != 0 {
		return nil, false
	}
	b := make([]byte, 0, len(s)/2)
	for k := 0; k < len(s); k += 2 {
		high, ok := digit(s[k])
		low, ok2 := digit(s[k+1])
		if !ok || !ok2 {
			return nil, false
		}
		b = append(b, high<<4|low)
	}
	return b, true
}

// digit knows no capital letters, as Hex writes none: a text has to be the Hex of its bytes.
func digit(c byte) (byte, bool) {
	switch {
	case c >= '0' && c <= '9':
		return c - '0', true
	case c >= 'a' && c <= 'f':
		return c - 'a' + 10, true
	}
	return 0, false
}
