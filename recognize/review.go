package recognize

import (
	"slices"

	"salchow/api"
	"salchow/notation"
)

// Reviewed returns the indices of the credited items that are under review, and the sum of their values.
func Reviewed(c api.Catalog, items []api.Item) ([]int, int64, api.Errno) {
	line, e := Line(c, items)
	if e != api.OK {
		return nil, 0, e
	}
	var reviewed []int
	var sum int64
	for i, x := range line {
		if x.Review {
			reviewed = append(reviewed, i)
			sum += x.Value
		}
	}
	return reviewed, sum, api.OK
}

// Settle returns a line after the review of an item: so many steps further down, or not credited.
func Settle(items []api.Item, index, steps int, void bool) ([]api.Item, api.Errno) {
	if e := notation.Check(items); e != api.OK {
		return nil, e
	}
	switch {
	case index < 0 || index >= len(items) || steps < 0:
		return nil, api.ErrArgument
	case !items[index].Review:
		return nil, api.ErrState
	}
	settled := slices.Clone(items)
	x := &settled[index]
	x.Review = false
	// More steps are too many for every item, and their sum could overflow.
	x.Down += min(steps, notation.MaxDown+1)
	x.Void = x.Void || void
	if e := notation.Check(settled); e != api.OK {
		return nil, e
	}
	return settled, api.OK
}
