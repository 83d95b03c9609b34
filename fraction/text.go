package fraction

import (
	"strconv"
	"strings"

	"salchow/api"
)

// The greatest numbers of digits of a source: of a run, and of both runs of a decimal number.
const (
	maxRun     = 19
	maxDecimal = 18
)

// Decimal returns n units of 10^-digits as a decimal number with exactly that many digits behind the point.
func Decimal(n int64, digits int) (string, api.Errno) {
	if !validDigits(digits) {
		return "", api.ErrArgument
	}
	s := strconv.FormatUint(magnitude(n), 10)
	if missing := digits + 1 - len(s); missing > 0 {
		s = strings.Repeat("0", missing) + s
	}
	if digits > 0 {
		point := len(s) - digits
		s = s[:point] + "." + s[point:]
	}
	if n < 0 {
		s = "-" + s
	}
	return s, api.OK
}

// Text returns the text of a fraction.
func Text(a api.Frac) string {
	if !Valid(a) {
		return ""
	}
	s := strconv.FormatInt(a.Num, 10)
	if a.Den == 1 {
		return s
	}
	return s + "/" + strconv.FormatInt(a.Den, 10)
}

// Parse returns the fraction of a text.
func Parse(s string) (api.Frac, api.Errno) {
	rest, negative := strings.CutPrefix(s, "-")
	first, rest, ok := cutRun(rest)
	if !ok {
		return api.Frac{}, api.ErrSyntax
	}
	if rest == "" {
		return reduced(negative, number(first), 1)
	}
	sign := rest[0]
	second, rest, ok := cutRun(rest[1:])
	if !ok || rest != "" {
		return api.Frac{}, api.ErrSyntax
	}
	switch sign {
	case '/':
		return parseQuotient(negative, first, second)
	case '.':
		return parseDecimal(negative, first, second)
	}
	return api.Frac{}, api.ErrSyntax
}

// parseQuotient returns the fraction of digits/digits.
func parseQuotient(negative bool, num, den string) (api.Frac, api.Errno) {
	d := number(den)
	if d == 0 {
		return api.Frac{}, api.ErrArgument
	}
	return reduced(negative, number(num), d)
}

// parseDecimal returns the fraction of digits.digits.
func parseDecimal(negative bool, whole, part string) (api.Frac, api.Errno) {
	if len(whole)+len(part) > maxDecimal {
		return api.Frac{}, api.ErrSyntax
	}
	return reduced(negative, number(whole+part), power(len(part)))
}

// cutRun returns the run of digits with which s begins, what follows it, and whether the run has a permitted length.
func cutRun(s string) (string, string, bool) {
	n := 0
	for n < len(s) && s[n] >= '0' && s[n] <= '9' {
		n++
	}
	return s[:n], s[n:], n >= 1 && n <= maxRun
}

// number returns the number of a run; one of at most maxRun digits is less than 2^64.
func number(run string) uint64 {
	n := uint64(0)
	for i := range len(run) {
		n = n*10 + uint64(run[i]-'0')
	}
	return n
}
