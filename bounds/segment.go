package bounds

import (
	"slices"
	"strings"

	"salchow/api"
	"salchow/fraction"
	"salchow/ident"
)

// The names of the variables that every segment has.
const (
	nameDifficulty = "difficulty"
	namePenalties  = "penalties"
)

// Boxes returns the ranges of the variables of a segment's formula under a ruleset.
func Boxes(r api.Ruleset, segment string) ([]Box, api.Errno) {
	s, ok := find(r, segment)
	switch {
	case !ok:
		return nil, api.ErrNone
	case !inRange(r.Catalog, s) || !distinct(s):
		return nil, api.ErrArgument
	}
	value := greatestValue(r.Catalog)
	boxes := []Box{{nameDifficulty, difficulty(r.Catalog, s, value)}, {namePenalties, penalties(s)}}
	for _, p := range s.Panels {
		boxes = append(boxes, Box{p.Name, result(p, value)})
	}
	slices.SortFunc(boxes, func(a, b Box) int { return strings.Compare(a.Name, b.Name) })
	return boxes, api.OK
}

// Score returns bounds of the score of a segment under a ruleset.
func Score(r api.Ruleset, segment string) (api.Interval, api.Errno) {
	boxes, e := Boxes(r, segment)
	if e != api.OK {
		return api.Interval{}, e
	}
	s, _ := find(r, segment)
	return Of(s.Score, boxes)
}

// find returns the first segment with a name.
func find(r api.Ruleset, name string) (api.Segment, bool) {
	for _, s := range r.Segments {
		if s.Name == name {
			return s, true
		}
	}
	return api.Segment{}, false
}

// inRange reports whether the numbers that matter for the ranges of a segment, and the kinds of its panels, are allowed.
func inRange(c api.Catalog, s api.Segment) bool {
	amounts := []int64{s.Connections}
	for _, element := range c.Elements {
		amounts = append(amounts, element.Value)
	}
	for _, group := range c.Groups {
		amounts = append(amounts, group.Credit)
	}
	for _, require := range s.Requires {
		amounts = append(amounts, require.Deduct)
	}
	for _, penalty := range s.Penalties {
		amounts = append(amounts, penalty.Value)
		if penalty.Most < 1 || penalty.Most > api.MaxMilli {
			return false
		}
	}
	for _, panel := range s.Panels {
		amounts = append(amounts, panel.Scale)
		if !marked(panel) {
			return false
		}
	}
	isOutside := func(amount int64) bool { return amount < 0 || amount > api.MaxMilli }
	return s.Count >= 1 && s.Count <= api.MaxItems && !slices.ContainsFunc(amounts, isOutside)
}

// marked reports whether the kind and the marks of a panel are allowed.
func marked(p api.Panel) bool {
	known := p.Kind == api.PanelOverall || p.Kind == api.PanelElements
	return known && p.Lo >= -api.MaxMilli && p.Lo <= p.Hi && p.Hi <= api.MaxMilli
}

// distinct reports whether the names of the variables of a segment are all different.
func distinct(s api.Segment) bool {
	names := []string{nameDifficulty, namePenalties}
	for _, p := range s.Panels {
		names = append(names, p.Name)
	}
	return len(ident.Set(names)) == len(names)
}

// greatestValue returns the greatest value of an element.
func greatestValue(c api.Catalog) int64 {
	greatest := int64(0)
	for _, element := range c.Elements {
		greatest = max(greatest, element.Value)
	}
	return greatest
}

// difficulty returns the range of the difficulty, for the greatest value of an element.
func difficulty(c api.Catalog, s api.Segment, value int64) api.Interval {
	amounts := []int64{int64(s.Count) * value, s.Connections}
	for _, group := range c.Groups {
		amounts = append(amounts, group.Credit)
	}
	return upTo(amounts)
}

// penalties returns the range of the penalties.
func penalties(s api.Segment) api.Interval {
	var amounts []int64
	for _, penalty := range s.Penalties {
		amounts = append(amounts, penalty.Value*int64(penalty.Most))
	}
	for _, require := range s.Requires {
		amounts = append(amounts, require.Deduct)
	}
	return upTo(amounts)
}

// upTo returns the interval of points from 0 to the sum of amounts in thousandths.
func upTo(amounts []int64) api.Interval {
	// A sum of thousandths of a long list may have more than 64 bits; one of points has not.
	whole, rest := int64(0), int64(0)
	for _, amount := range amounts {
		whole += amount / 1000
		rest += amount % 1000
	}
	sum, _ := fraction.Add(api.Frac{Num: whole, Den: 1}, fraction.Milli(rest))
	return api.Interval{Lo: fraction.Milli(0), Hi: sum}
}

// result returns the range of the result of a panel, for the greatest value of an element.
func result(p api.Panel, value int64) api.Interval {
	if p.Kind == api.PanelOverall {
		return api.Interval{Lo: fraction.Milli(p.Lo), Hi: fraction.Milli(p.Hi)}
	}
	end := func(mark int64) api.Frac {
		// The product with the scale may have more than 64 bits before it is reduced.
		unscaled, _ := fraction.Make(api.MaxItems*value*mark, 1_000_000_000)
		scaled, _ := fraction.Mul(unscaled, api.Frac{Num: p.Scale, Den: 1})
		return scaled
	}
	return api.Interval{Lo: end(min(p.Lo, 0)), Hi: end(max(p.Hi, 0))}
}
