package consistency

import (
	"slices"

	"salchow/api"
	"salchow/ruleset"
)

// Most returns the greatest number of elements of a group with a value that can count in a segment.
func Most(r api.Ruleset, segment, group string) (int, api.Errno) {
	s, e := find(r, segment)
	if e != api.OK {
		return 0, e
	}
	hasName := func(g api.Group) bool { return g.Name == group }
	if !slices.ContainsFunc(r.Catalog.Groups, hasName) {
		return 0, api.ErrName
	}
	return most(r.Catalog, s, group), api.OK
}

// Fulfil returns codes of elements with values that fulfil all requirements of a segment.
func Fulfil(r api.Ruleset, segment string) ([]string, api.Errno) {
	s, e := find(r, segment)
	if e != api.OK {
		return nil, e
	}
	isFulfilled := true
	examineRequirements(r.Catalog, s, func(Finding) { isFulfilled = false })
	if !isFulfilled {
		return nil, api.ErrNone
	}
	var witness []string
	for _, require := range s.Requires {
		var codes []string
		for _, x := range valued(r.Catalog, require.Group) {
			codes = append(codes, slices.Repeat([]string{x.Code}, s.Repeat)...)
		}
		witness = append(witness, codes[:require.Least]...)
	}
	return witness, api.OK
}

// find returns the segment of a valid ruleset that has a name.
func find(r api.Ruleset, segment string) (api.Segment, api.Errno) {
	if !ruleset.Valid(r) {
		return api.Segment{}, api.ErrArgument
	}
	return ruleset.Find(r, segment)
}

// most returns the greatest number of elements of a group of the catalog, with a value, that can count in a segment.
func most(c api.Catalog, s api.Segment, group string) int {
	n := min(s.Count, s.Repeat*len(valued(c, group)))
	for _, g := range c.Groups {
		if g.Name == group {
			n = min(n, g.Limit)
		}
	}
	return n
}

// examineRequirements adds the findings about the requirements of a segment: those that cannot be fulfilled, or else that they cannot be together.
func examineRequirements(c api.Catalog, s api.Segment, add func(f Finding)) {
	sum, isReachable := 0, true
	for _, require := range s.Requires {
		sum += require.Least
		if n := most(c, s, require.Group); require.Least > n {
			isReachable = false
			add(Finding{Kind: Unreachable, Segment: s.Name, Name: require.Group, N: int64(n)})
		}
	}
	if isReachable && sum > s.Count {
		add(Finding{Kind: Together, Segment: s.Name, N: int64(sum)})
	}
}
