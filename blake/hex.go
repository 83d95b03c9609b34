package blake

// digits are the hexadecimal digits.
const digits = "0123456789abcdef"

// Hex returns the bytes of b as lower-case hexadecimal digits, two per byte.
func Hex(b string) string {
	s := make([]byte, 0, 2*len(b))
	for i := range len(b) {
		s = append(s, digits[b[i]>>4], digits[b[i]&15])
	}
	return string(s)
}

// Unhex is the inverse of Hex. It returns false if s is not a result of Hex.
func Unhex(s string) (string, bool) {
	if len(s)%2 != 0 {
		return "", false
	}
	b := make([]byte, 0, len(s)/2)
	for i := 0; i < len(s); i += 2 {
		upper, lower := digit(s[i]), digit(s[i+1])
		if upper < 0 || lower < 0 {
			return "", false
		}
		b = append(b, byte(upper<<4|lower))
	}
	return string(b), true
}

// digit returns the number of a hexadecimal digit, or -1 if c is none.
func digit(c byte) int {
	switch {
	case c >= '0' && c <= '9':
		return int(c - '0')
	case c >= 'a' && c <= 'f':
		return int(c-'a') + 10
	}
	return -1
}
