package bounds

import (
	"slices"

	"salchow/api"
	"salchow/formula"
)

// The directions in which a formula depends on a variable.
const (
	Constant = 0
	Up       = 1 // a greater variable never makes the formula less
	Down     = 2 // a greater variable never makes the formula greater
	Unknown  = 3
)

// Directions returns the direction for each box.
func Directions(x api.Expr, boxes []Box) ([]int, api.Errno) {
	trace, e := Trace(x, boxes)
	if e != api.OK {
		return nil, e
	}
	of := map[string]int{}
	for _, name := range formula.Variables(x) {
		of[name] = directionIn(name, x, trace)
	}
	var directions []int
	for _, b := range boxes {
		// A name that no variable has is not in the map: it has the direction Constant.
		directions = append(directions, of[b.Name])
	}
	return directions, api.OK
}

// directionIn returns the direction of a formula, whose nodes have the bounds of a trace, in a variable.
func directionIn(name string, x api.Expr, trace []api.Interval) int {
	directions := make([]int, len(trace))
	for p := range parts(x) {
		directions[p.place] = p.directionIn(name, directions, trace)
	}
	return directions[0]
}

// directionIn returns the direction of a node in a variable, for the directions of its kids.
func (p part) directionIn(name string, directions []int, trace []api.Interval) int {
	kid := func(i int) int { return directions[p.kids[i]] }
	bounds := func(i int) api.Interval { return trace[p.kids[i]] }
	switch p.node.Op {
	case api.ExprConst:
		return Constant
	case api.ExprVar:
		if p.node.Name == name {
			return Up
		}
		return Constant
	case api.ExprNeg:
		return reversed(kid(0))
	case api.ExprSub:
		return union(kid(0), reversed(kid(1)))
	case api.ExprMul:
		return union(multiplied(kid(0), bounds(1)), multiplied(kid(1), bounds(0)))
	case api.ExprDiv:
		// The number of a quotient is not negative.
		return kid(0)
	default:
		return union(kid(0), kid(1))
	}
}

// reversed returns the direction of a negation.
func reversed(direction int) int {
	switch direction {
	case Up:
		return Down
	case Down:
		return Up
	}
	return direction
}

// union returns the direction of what has two directions.
func union(a, b int) int {
	switch {
	case a == Constant:
		return b
	case b == Constant || a == b:
		return a
	}
	return Unknown
}

// multiplied returns the direction of the product of what has a direction and what has bounds.
func multiplied(direction int, bounds api.Interval) int {
	switch {
	case direction == Constant || bounds.Lo.Num >= 0:
		return direction
	case bounds.Hi.Num <= 0:
		return reversed(direction)
	}
	return Unknown
}

// Corners returns values of the variables at which the formula is least and greatest, if all directions are known.
func Corners(x api.Expr, boxes []Box) (least, greatest []api.Named, e api.Errno) {
	directions, e := Directions(x, boxes)
	switch {
	case e != api.OK:
		return nil, nil, e
	case slices.Contains(directions, Unknown):
		return nil, nil, api.ErrNone
	}
	for i, b := range boxes {
		low, high := b.Range.Lo, b.Range.Lo
		switch directions[i] {
		case Up:
			high = b.Range.Hi
		case Down:
			low = b.Range.Hi
		}
		least = append(least, api.Named{Name: b.Name, Value: low})
		greatest = append(greatest, api.Named{Name: b.Name, Value: high})
	}
	return least, greatest, api.OK
}
