package bounds

import (
	"iter"

	"salchow/api"
	"salchow/formula"
	"salchow/fraction"
	"salchow/interval"
)

// part is a node of a formula, with its place in a trace and those of its kids.
type part struct {
	node  api.Expr
	place int
	kids  []int
}

// parts returns the nodes of a formula, the kids before the node to which they belong.
func parts(x api.Expr) iter.Seq[part] {
	return func(yield func(p part) bool) {
		yieldParts(x, 0, yield)
	}
}

// yieldParts gives the nodes of a tree, whose root has the given place, to yield, and reports whether it wants more.
func yieldParts(x api.Expr, place int, yield func(p part) bool) bool {
	p := part{node: x, place: place}
	next := place + 1
	for _, kid := range x.Kids {
		if !yieldParts(kid, next, yield) {
			return false
		}
		p.kids = append(p.kids, next)
		next += formula.Size(kid)
	}
	return yield(p)
}

// extension returns the extension of the operation of a node to the intervals that a trace has for its kids.
func (p part) extension(trace []api.Interval, ranges map[string]api.Interval) (api.Interval, api.Errno) {
	switch p.node.Op {
	case api.ExprConst:
		value := fraction.Milli(p.node.N)
		return interval.Make(value, value)
	case api.ExprVar:
		return ranges[p.node.Name], api.OK
	}
	first := trace[p.kids[0]]
	switch p.node.Op {
	case api.ExprNeg:
		return interval.Neg(first)
	case api.ExprDiv:
		return interval.Div(first, fraction.Milli(p.node.Kids[1].N))
	}
	second := trace[p.kids[1]]
	switch p.node.Op {
	case api.ExprAdd:
		return interval.Add(first, second)
	case api.ExprSub:
		return interval.Sub(first, second)
	case api.ExprMul:
		return interval.Mul(first, second)
	case api.ExprMin:
		return interval.Min(first, second)
	default:
		return interval.Max(first, second)
	}
}
