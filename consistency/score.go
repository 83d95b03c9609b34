package consistency

import (
	"slices"

	"salchow/api"
	"salchow/bounds"
	"salchow/formula"
	"salchow/fraction"
)

// examineScore adds the findings about the formula of a segment: an overflow, and panels on which it does not depend.
func examineScore(r api.Ruleset, s api.Segment, add func(f Finding)) {
	if place, overflows := overflow(r, s); overflows {
		add(Finding{Kind: Overflow, Segment: s.Name, N: int64(place)})
	}
	variables := formula.Variables(s.Score)
	for _, p := range s.Panels {
		if !slices.Contains(variables, p.Name) {
			add(Finding{Kind: Flat, Segment: s.Name, Name: p.Name})
		}
	}
}

// overflow returns the index of the first place of a segment that overflows, or -1 if none does, and whether the segment overflows.
func overflow(r api.Ruleset, s api.Segment) (int, bool) {
	boxes, _ := bounds.Boxes(r, s.Name)
	of := variableDenominators(s)
	for i, box := range boxes {
		if exceeds(of[box.Name], box.Range) {
			return i, true
		}
	}
	trace, e := bounds.Trace(s.Score, boxes)
	if e != api.OK {
		// What is out of range for a node is so for the root, and without all ranges no node has bounds.
		return len(boxes), true
	}
	for i, denominator := range nodeDenominators(s.Score, of) {
		if exceeds(denominator, trace[i]) {
			return len(boxes) + i, true
		}
	}
	return -1, !isPublishable(trace[0], r.Digits)
}

// exceeds reports whether numbers with a denominator and within bounds may be out of range.
func exceeds(denominator int64, within api.Interval) bool {
	isOut := func(end api.Frac) bool {
		// Mul has another error for an end that is no fraction; such an end does not count.
		_, e := fraction.Mul(end, api.Frac{Num: denominator, Den: 1})
		return e == api.ErrRange
	}
	return denominator == tooGreat || isOut(within.Lo) || isOut(within.Hi)
}

// isPublishable reports whether all numbers of an interval can be published with these digits.
func isPublishable(within api.Interval, digits int) bool {
	unit := int64(1)
	for range digits {
		unit *= 10
	}
	// Compared with a quotient of the greatest number, no product can be out of range.
	greatest, _ := fraction.Make(api.MaxNum-1, unit)
	return fraction.Cmp(within.Hi, greatest) <= 0 && fraction.Cmp(fraction.Neg(greatest), within.Lo) <= 0
}
