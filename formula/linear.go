package formula

import (
	"slices"

	"salchow/api"
	"salchow/fraction"
)

// constant is the key of the constant in terms: no variable has this name.
const constant = ""

// terms has the coefficients of variables, and a constant; those that it lacks are zero.
type terms map[string]api.Frac

// Linear returns the coefficients and the constant of a formula that is linear by its form.
func Linear(x api.Expr) ([]api.Named, api.Frac, api.Errno) {
	switch {
	case !Valid(x):
		return nil, api.Frac{}, api.ErrArgument
	case !isLinear(x):
		return nil, api.Frac{}, api.ErrNone
	}
	all, e := termsOf(x)
	if e != api.OK {
		return nil, api.Frac{}, e
	}
	var coefficients []api.Named
	for _, name := range Variables(x) {
		if c := all.of(name); c.Num != 0 {
			coefficients = append(coefficients, api.Named{Name: name, Value: c})
		}
	}
	return coefficients, all.of(constant), api.OK
}

// isLinear reports whether a formula is linear.
func isLinear(x api.Expr) bool {
	if isConstant(x) {
		return true
	}
	nonlinear := func(kid api.Expr) bool { return !isLinear(kid) }
	switch x.Op {
	case api.ExprMin, api.ExprMax:
		return false
	case api.ExprMul:
		return slices.ContainsFunc(x.Kids, isConstant) && !slices.ContainsFunc(x.Kids, nonlinear)
	}
	return !slices.ContainsFunc(x.Kids, nonlinear)
}

// isConstant reports whether a formula has no variables.
func isConstant(x api.Expr) bool { return len(Variables(x)) == 0 }

// termsOf returns the terms of a linear formula.
func termsOf(x api.Expr) (terms, api.Errno) {
	if isConstant(x) {
		v, e := value(x, nil)
		return terms{constant: v}, e
	}
	if x.Op == api.ExprVar {
		return terms{x.Name: fraction.Milli(1000)}, api.OK
	}
	var kids []terms
	for _, kid := range x.Kids {
		t, e := termsOf(kid)
		if e != api.OK {
			return nil, e
		}
		kids = append(kids, t)
	}
	switch x.Op {
	case api.ExprNeg:
		return combine(fraction.Sub, nil, kids[0])
	case api.ExprAdd:
		return combine(fraction.Add, kids[0], kids[1])
	case api.ExprSub:
		return combine(fraction.Sub, kids[0], kids[1])
	case api.ExprDiv:
		return scale(fraction.Div, kids[0], kids[1].of(constant))
	}
	if isConstant(x.Kids[0]) {
		slices.Reverse(kids)
	}
	return scale(fraction.Mul, kids[0], kids[1].of(constant))
}

// of returns the coefficient of a name.
func (t terms) of(name string) api.Frac {
	if c, ok := t[name]; ok {
		return c
	}
	return fraction.Milli(0)
}

// operation is an operation of chapter 1 with two operands.
type operation func(a, b api.Frac) (api.Frac, api.Errno)

// combine returns the results of an operation of the coefficients of a and b.
func combine(operate operation, a, b terms) (terms, api.Errno) {
	result := terms{}
	for _, t := range []terms{a, b} {
		for name := range t {
			c, e := operate(a.of(name), b.of(name))
			if e != api.OK {
				return nil, e
			}
			result[name] = c
		}
	}
	return result, api.OK
}

// scale returns the results of an operation of the coefficients of a and a number.
func scale(operate operation, a terms, number api.Frac) (terms, api.Errno) {
	result := terms{}
	for name, c := range a {
		scaled, e := operate(c, number)
		if e != api.OK {
			return nil, e
		}
		result[name] = scaled
	}
	return result, api.OK
}
