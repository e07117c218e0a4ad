// Package sum: bytes to thirty-two: see DOC.md, chapter 1.
package sum

// Sum is SHA-256's.
type Sum [32]byte

const digits = "0123456789abcdef"

// Of tells the sum of all parts, one behind the other.
func Of(b ...[]byte) Sum {
	h := begin()
	for _, part := range b {
		h.write(part)
	}
	return h.end()
}

// Text writes one: 64 small digits of base sixteen.
func Text(s Sum) string {
	t := make([]byte, 0, 2*len(s))
	for _, v := range s {
		t = append(t, digits[v>>4], digits[v&15])
	}
	return string(t)
}

// Parse reads what Text writes, and nothing else.
func Parse(t string) (Sum, bool) {
	var s Sum
	if len(t) != 2*len(s) {
		return Sum{}, false
	}
	for i := range s {
		high, okHigh := digit(t[2*i])
		low, okLow := digit(t[2*i+1])
		if !okHigh || !okLow {
			return Sum{}, false
		}
		s[i] = high<<4 | low
	}
	return s, true
}

// digit does not know great letters: one sum has one text alone.
func digit(c byte) (byte, bool) {
	switch {
	case '0' <= c && c <= '9':
		return c - '0', true
	case 'a' <= c && c <= 'f':
		return c - 'a' + 10, true
	}
	return 0, false
}
