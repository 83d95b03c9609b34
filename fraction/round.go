package fraction

import "salchow/api"

// maxDigits is the greatest number of digits behind the point of a published number.
const maxDigits = 6

// Round returns a in units of 10^-digits, rounded.
func Round(a api.Frac, digits, mode int) (int64, api.Errno) {
	if !Valid(a) || !validDigits(digits) || !validMode(mode) {
		return 0, api.ErrArgument
	}
	den := uint64(a.Den)
	quotient, rest := multiply(magnitude(a.Num), power(digits)).split(den)
	if away(quotient.lo, rest, den, mode) {
		quotient = quotient.plus(product{0, 1})
	}
	if !quotient.atMost(api.MaxNum) {
		return 0, api.ErrRange
	}
	n := int64(quotient.lo)
	if a.Num < 0 {
		n = -n
	}
	return n, api.OK
}

// validDigits reports whether a number can have so many digits behind the point.
func validDigits(digits int) bool {
	return digits >= 0 && digits <= maxDigits
}

// validMode reports whether mode is one of the three modes of rounding.
func validMode(mode int) bool {
	return mode == api.Down || mode == api.HalfUp || mode == api.HalfEven
}

// away reports whether the magnitude quotient + rest / den is rounded to quotient + 1.
func away(quotient, rest, den uint64, mode int) bool {
	switch mode {
	case api.HalfUp:
		return 2*rest >= den
	case api.HalfEven:
		return 2*rest > den || 2*rest == den && quotient%2 == 1
	}
	return false
}
