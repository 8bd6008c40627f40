package ticks

import (
	"strconv"
	"strings"
)

const partDigits = 7 // digits of the ticks behind the point

// Format returns t as a text: its seconds, a point, and the ticks that remain, which are no decimal fraction.
func Format(t int) string {
	part := strconv.Itoa(Part(t))
	return strconv.Itoa(Second(t)) + "." + strings.Repeat("0", partDigits-len(part)) + part
}

// Parse returns the valid t whose Format is s, if there is one.
func Parse(s string) (int, bool) {
	whole, behind, _ := strings.Cut(s, ".")
	digits, negative := strings.CutPrefix(whole, "-")
	seconds, ok := number(digits)
	part, ok2 := number(behind)
	if !ok || !ok2 {
		return 0, false
	}
	if negative {
		seconds = -seconds
	}
	t := seconds*second + part
	// An instant has one Format only, so this refuses whatever else reads alike: more or fewer zeros, -0, too many ticks.
	if !Valid(t) || Format(t) != s {
		return 0, false
	}
	return t, true
}

// number returns the number with these digits, if it is not above the seconds of any instant.
func number(digits string) (int, bool) {
	n := 0
	for _, digit := range digits {
		if digit < '0' || digit > '9' {
			return 0, false
		}
		n = 10*n + int(digit-'0')
		if n > greatest {
			return 0, false
		}
	}
	return n, true
}
