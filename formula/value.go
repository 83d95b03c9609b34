package formula

import (
	"slices"

	"salchow/api"
	"salchow/fraction"
	"salchow/ident"
)

// Eval returns the value of a formula for the values of its variables.
func Eval(x api.Expr, values []api.Named) (api.Frac, api.Errno) {
	var names []string
	known := map[string]api.Frac{}
	for _, v := range values {
		names = append(names, v.Name)
		known[v.Name] = v.Value
	}
	isNone := func(v api.Named) bool { return !fraction.Valid(v.Value) }
	switch {
	case !Valid(x) || !ident.Sorted(names) || slices.ContainsFunc(values, isNone):
		return api.Frac{}, api.ErrArgument
	case !ident.Subset(Variables(x), names):
		return api.Frac{}, api.ErrName
	}
	return value(x, known)
}

// value returns the value of a formula whose variables have known values.
func value(x api.Expr, known map[string]api.Frac) (api.Frac, api.Errno) {
	switch x.Op {
	case api.ExprConst:
		return fraction.Milli(x.N), api.OK
	case api.ExprVar:
		return known[x.Name], api.OK
	}
	var kids []api.Frac
	for _, kid := range x.Kids {
		v, e := value(kid, known)
		if e != api.OK {
			return api.Frac{}, e
		}
		kids = append(kids, v)
	}
	switch x.Op {
	case api.ExprNeg:
		return fraction.Neg(kids[0]), api.OK
	case api.ExprAdd:
		return fraction.Add(kids[0], kids[1])
	case api.ExprSub:
		return fraction.Sub(kids[0], kids[1])
	case api.ExprMul:
		return fraction.Mul(kids[0], kids[1])
	case api.ExprDiv:
		return fraction.Div(kids[0], kids[1])
	case api.ExprMin:
		return slices.MinFunc(kids, fraction.Cmp), api.OK
	default:
		return slices.MaxFunc(kids, fraction.Cmp), api.OK
	}
}
