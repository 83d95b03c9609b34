// Package fraction is layer 1: exact fractions within fixed bounds. See shared/doc/01-fraction.md.
package fraction

import "salchow/api"

// Valid reports whether a is a fraction in normalized form within the bounds.
func Valid(a api.Frac) bool {
	if a.Den < 1 || a.Den > api.MaxDen || a.Num < -api.MaxNum || a.Num > api.MaxNum {
		return false
	}
	return divisor(magnitude(a.Num), uint64(a.Den)) == 1
}

// valid reports whether all of list are fractions.
func valid(list ...api.Frac) bool {
	for _, a := range list {
		if !Valid(a) {
			return false
		}
	}
	return true
}

// normalized returns the fraction of a numerator and a denominator without a common divisor.
func normalized(negative bool, num, den product) (api.Frac, api.Errno) {
	if !num.atMost(api.MaxNum) || !den.atMost(api.MaxDen) {
		return api.Frac{}, api.ErrRange
	}
	n := int64(num.lo)
	if negative {
		n = -n
	}
	return api.Frac{Num: n, Den: int64(den.lo)}, api.OK
}

// reduced returns the fraction num / den, or its negation, for a den that is not 0.
func reduced(negative bool, num, den uint64) (api.Frac, api.Errno) {
	d := divisor(num, den)
	return normalized(negative, product{0, num / d}, product{0, den / d})
}

// Make returns the fraction num / den.
func Make(num, den int64) (api.Frac, api.Errno) {
	if den == 0 {
		return api.Frac{}, api.ErrArgument
	}
	return reduced((num < 0) != (den < 0), magnitude(num), magnitude(den))
}

// Milli returns n thousandths.
func Milli(n int64) api.Frac {
	if n < -api.MaxNum || n > api.MaxNum {
		return api.Frac{}
	}
	a, _ := Make(n, 1000)
	return a
}

// Add returns a + b.
func Add(a, b api.Frac) (api.Frac, api.Errno) {
	if !valid(a, b) {
		return api.Frac{}, api.ErrArgument
	}
	return sum(a, b)
}

// sum returns the sum of two fractions.
func sum(a, b api.Frac) (api.Frac, api.Errno) {
	// Only a divisor of d can still divide both the numerator and the common denominator (Knuth, 4.5.1): so no divisor has more than 64 bits.
	d := divisor(uint64(a.Den), uint64(b.Den))
	restA, restB := uint64(a.Den)/d, uint64(b.Den)/d
	negative, num := signedSum(a.Num < 0, multiply(magnitude(a.Num), restB), b.Num < 0, multiply(magnitude(b.Num), restA))
	_, rest := num.split(d)
	common := divisor(rest, d)
	num, _ = num.split(common)
	return normalized(negative, num, multiply(restA, uint64(b.Den)/common))
}

// signedSum returns the sign and the magnitude of the sum of two numbers that are given so.
func signedSum(negativeA bool, a product, negativeB bool, b product) (bool, product) {
	switch {
	case negativeA == negativeB:
		return negativeA, a.plus(b)
	case a.less(b):
		return negativeB, b.minus(a)
	}
	return negativeA, a.minus(b)
}

// Sub returns a - b.
func Sub(a, b api.Frac) (api.Frac, api.Errno) {
	return Add(a, Neg(b))
}

// Mul returns a * b.
func Mul(a, b api.Frac) (api.Frac, api.Errno) {
	if !valid(a, b) {
		return api.Frac{}, api.ErrArgument
	}
	numA, denA := magnitude(a.Num), uint64(a.Den)
	numB, denB := magnitude(b.Num), uint64(b.Den)
	// Each numerator is reduced with the other denominator: then the products have no common divisor.
	first, second := divisor(numA, denB), divisor(numB, denA)
	num := multiply(numA/first, numB/second)
	den := multiply(denA/second, denB/first)
	return normalized((a.Num < 0) != (b.Num < 0), num, den)
}

// Div returns a / b.
func Div(a, b api.Frac) (api.Frac, api.Errno) {
	if !valid(a, b) || b.Num == 0 {
		return api.Frac{}, api.ErrArgument
	}
	inverse := api.Frac{Num: b.Den, Den: b.Num}
	if b.Num < 0 {
		inverse = api.Frac{Num: -b.Den, Den: -b.Num}
	}
	return Mul(a, inverse)
}

// Neg returns -a.
func Neg(a api.Frac) api.Frac {
	if !Valid(a) {
		return api.Frac{}
	}
	return api.Frac{Num: -a.Num, Den: a.Den}
}

// Cmp returns -1, 0 or 1 if a is less than, equal to or greater than b.
func Cmp(a, b api.Frac) int {
	validA, validB := Valid(a), Valid(b)
	switch {
	case !validA && !validB:
		return 0
	case !validA:
		return -1
	case !validB:
		return 1
	}
	return compare(a, b)
}

// compare returns the order of two fractions.
func compare(a, b api.Frac) int {
	switch {
	case a.Num < 0 && b.Num >= 0:
		return -1
	case a.Num >= 0 && b.Num < 0:
		return 1
	}
	c := order(multiply(magnitude(a.Num), uint64(b.Den)), multiply(magnitude(b.Num), uint64(a.Den)))
	if a.Num < 0 {
		return -c
	}
	return c
}

// Sum returns the sum of a list.
func Sum(list []api.Frac) (api.Frac, api.Errno) {
	if !valid(list...) {
		return api.Frac{}, api.ErrArgument
	}
	total := api.Frac{Num: 0, Den: 1}
	for _, a := range list {
		next, e := sum(total, a)
		if e != api.OK {
			return api.Frac{}, e
		}
		total = next
	}
	return total, api.OK
}

// Mean returns the mean of a list that is not empty.
func Mean(list []api.Frac) (api.Frac, api.Errno) {
	if len(list) == 0 {
		return api.Frac{}, api.ErrArgument
	}
	total, e := Sum(list)
	if e != api.OK {
		return api.Frac{}, e
	}
	return Div(total, api.Frac{Num: int64(len(list)), Den: 1})
}
