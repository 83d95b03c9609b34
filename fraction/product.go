package fraction

import "math/bits"

// product is the number hi * 2^64 + lo: what two numbers of 64 bits multiply to.
type product struct {
	hi, lo uint64
}

// multiply returns a * b.
func multiply(a, b uint64) product {
	hi, lo := bits.Mul64(a, b)
	return product{hi, lo}
}

// plus returns p + q. Products of numbers up to 10^18 are less than 2^120, so the sum of two has no carry.
func (p product) plus(q product) product {
	lo, carry := bits.Add64(p.lo, q.lo, 0)
	return product{p.hi + q.hi + carry, lo}
}

// minus returns p - q, for q not greater than p.
func (p product) minus(q product) product {
	lo, borrow := bits.Sub64(p.lo, q.lo, 0)
	return product{p.hi - q.hi - borrow, lo}
}

// less reports whether p is less than q.
func (p product) less(q product) bool {
	if p.hi != q.hi {
		return p.hi < q.hi
	}
	return p.lo < q.lo
}

// split returns the quotient and the rest of p and d, which is not 0.
func (p product) split(d uint64) (product, uint64) {
	// bits.Div64 panics if the quotient has more than 64 bits; with the rest of the upper half it never has.
	lo, rest := bits.Div64(p.hi%d, p.lo, d)
	return product{p.hi / d, lo}, rest
}

// atMost reports whether p is at most limit.
func (p product) atMost(limit uint64) bool {
	return p.hi == 0 && p.lo <= limit
}

// order returns -1, 0 or 1 if p is less than, equal to or greater than q.
func order(p, q product) int {
	if p == q {
		return 0
	}
	if p.less(q) {
		return -1
	}
	return 1
}

// divisor returns the greatest common divisor of a and b; that of 0 and b is b.
func divisor(a, b uint64) uint64 {
	for b != 0 {
		a, b = b, a%b
	}
	return a
}

// magnitude returns the absolute value of n, also of the least int64, which has no negation.
func magnitude(n int64) uint64 {
	if n < 0 {
		return 0 - uint64(n)
	}
	return uint64(n)
}

// power returns 10^n, for n from 0 to 18.
func power(n int) uint64 {
	p := uint64(1)
	for range n {
		p *= 10
	}
	return p
}
