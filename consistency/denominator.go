package consistency

import (
	"salchow/api"
	"salchow/fraction"
)

// tooGreat stands for a denominator that is greater than MaxDen, or that is formed from such a one.
const tooGreat = 0

// The denominators of numbers in thousandths, and of products of three of them.
const (
	perMilli = 1000
	perCube  = 1_000_000_000
)

// The names of the variables that every segment has.
const (
	nameDifficulty = "difficulty"
	namePenalties  = "penalties"
)

// variableDenominators returns the denominators of the variables of a segment's formula.
func variableDenominators(s api.Segment) map[string]int64 {
	of := map[string]int64{nameDifficulty: perMilli, namePenalties: perMilli}
	for _, p := range s.Panels {
		if p.Kind == api.PanelOverall {
			of[p.Name] = product(perMilli, keptDenominator(p))
		} else {
			of[p.Name] = product(perCube, keptDenominator(p))
		}
	}
	return of
}

// keptDenominator returns the least common multiple of the numbers of marks of a panel that can be kept.
func keptDenominator(p api.Panel) int64 {
	multiple := int64(1)
	for n := max(p.Least, 2*p.Drop+1); n <= p.Judges; n++ {
		multiple = common(multiple, int64(n-2*p.Drop))
	}
	return multiple
}

// nodeDenominators returns the denominators of the nodes of a formula, a node before its kids.
func nodeDenominators(x api.Expr, of map[string]int64) []int64 {
	list := []int64{0}
	var kids []int64
	for _, kid := range x.Kids {
		part := nodeDenominators(kid, of)
		kids = append(kids, part[0])
		list = append(list, part...)
	}
	list[0] = nodeDenominator(x, kids, of)
	return list
}

// nodeDenominator returns the denominator of a node whose kids have these denominators.
func nodeDenominator(x api.Expr, kids []int64, of map[string]int64) int64 {
	switch x.Op {
	case api.ExprConst:
		return fraction.Milli(x.N).Den
	case api.ExprVar:
		return of[x.Name]
	case api.ExprNeg:
		return kids[0]
	case api.ExprMul:
		return product(kids[0], kids[1])
	case api.ExprDiv:
		return product(kids[0], fraction.Milli(x.Kids[1].N).Num)
	default:
		return common(kids[0], kids[1])
	}
}

// product returns the product of two denominators.
func product(a, b int64) int64 {
	// A product that is out of range has the zero value, and one with tooGreat is zero.
	p, _ := fraction.Mul(api.Frac{Num: a, Den: 1}, api.Frac{Num: b, Den: 1})
	return p.Num
}

// common returns the least common multiple of two denominators.
func common(a, b int64) int64 {
	// In lowest terms a / b has the part of b that a lacks as its denominator; without a quotient it is tooGreat.
	quotient, _ := fraction.Make(a, b)
	return product(a, quotient.Den)
}
