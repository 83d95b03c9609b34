package interval

import (
	"salchow/api"
	"salchow/fraction"
)

// Add returns the sums of a number of a and one of b.
func Add(a, b api.Interval) (api.Interval, api.Errno) {
	if !valid(a, b) {
		return api.Interval{}, api.ErrArgument
	}
	return span(fraction.Add, [2]api.Frac{a.Lo, b.Lo}, [2]api.Frac{a.Hi, b.Hi})
}

// Sub returns the differences of a number of a and one of b.
func Sub(a, b api.Interval) (api.Interval, api.Errno) {
	if !valid(a, b) {
		return api.Interval{}, api.ErrArgument
	}
	return span(fraction.Sub, [2]api.Frac{a.Lo, b.Hi}, [2]api.Frac{a.Hi, b.Lo})
}

// Neg returns the negated numbers of a.
func Neg(a api.Interval) (api.Interval, api.Errno) {
	if !Valid(a) {
		return api.Interval{}, api.ErrArgument
	}
	return api.Interval{Lo: fraction.Neg(a.Hi), Hi: fraction.Neg(a.Lo)}, api.OK
}

// Mul returns the products of a number of a and one of b.
func Mul(a, b api.Interval) (api.Interval, api.Errno) {
	if !valid(a, b) {
		return api.Interval{}, api.ErrArgument
	}
	pairs := [4][2]api.Frac{{a.Lo, b.Lo}, {a.Lo, b.Hi}, {a.Hi, b.Lo}, {a.Hi, b.Hi}}
	return span(fraction.Mul, pairs[:]...)
}

// Scale returns the numbers of a times f.
func Scale(a api.Interval, f api.Frac) (api.Interval, api.Errno) {
	if !Valid(a) {
		return api.Interval{}, api.ErrArgument
	}
	return span(fraction.Mul, [2]api.Frac{a.Lo, f}, [2]api.Frac{a.Hi, f})
}

// Div returns the quotients of a number of a and f.
func Div(a api.Interval, f api.Frac) (api.Interval, api.Errno) {
	if !Valid(a) {
		return api.Interval{}, api.ErrArgument
	}
	return span(fraction.Div, [2]api.Frac{a.Lo, f}, [2]api.Frac{a.Hi, f})
}

// span returns the interval from the least to the greatest result of an operation for some pairs of numbers, at most four.
func span(operation func(x, y api.Frac) (api.Frac, api.Errno), pairs ...[2]api.Frac) (api.Interval, api.Errno) {
	var results [4]api.Frac
	for i, pair := range pairs {
		result, e := operation(pair[0], pair[1])
		if e != api.OK {
			return api.Interval{}, e
		}
		results[i] = result
	}
	all := api.Interval{Lo: results[0], Hi: results[0]}
	for _, result := range results[:len(pairs)] {
		all.Lo, all.Hi = lesser(all.Lo, result), greater(all.Hi, result)
	}
	return all, api.OK
}

// Min returns the lesser ones of a number of a and one of b.
func Min(a, b api.Interval) (api.Interval, api.Errno) {
	if !valid(a, b) {
		return api.Interval{}, api.ErrArgument
	}
	return api.Interval{Lo: lesser(a.Lo, b.Lo), Hi: lesser(a.Hi, b.Hi)}, api.OK
}

// Max returns the greater ones of a number of a and one of b.
func Max(a, b api.Interval) (api.Interval, api.Errno) {
	if !valid(a, b) {
		return api.Interval{}, api.ErrArgument
	}
	return api.Interval{Lo: greater(a.Lo, b.Lo), Hi: greater(a.Hi, b.Hi)}, api.OK
}
