package difficulty

import (
	"salchow/api"
	"salchow/recognize"
)

// Change is a change of the code of one item of a line; its marks are taken away.
type Change struct {
	Index int
	Code  string
	Gain  int64
}

// Improve returns the change of one item that gains most.
func Improve(c api.Catalog, s api.Segment, items []api.Item) (Change, api.Errno) {
	before, e := Compute(c, s, items)
	if e != api.OK {
		return Change{}, e
	}
	var best Change
	try := func(index int, x api.Recognized) {
		line := make([]api.Recognized, len(items))
		copy(line, before.Items)
		x.Joined = line[index].Joined
		line[index] = x
		after, e := compute(c, s, line)
		// Of equal gains the first one stays: the changes are tried by index, then by code.
		if gain := net(after) - net(before); e == api.OK && gain > best.Gain {
			best = Change{Index: index, Code: x.Code, Gain: gain}
		}
	}
	worths := clean(c)
	for index := range items {
		// An item without marks that keeps its code gains nothing, so that it needs no exception.
		for _, x := range worths {
			try(index, x)
		}
	}
	if best.Gain == 0 {
		return Change{}, api.ErrNone
	}
	return best, api.OK
}

// clean returns what items without marks are worth, one for each element of a catalog.
func clean(c api.Catalog) []api.Recognized {
	var list []api.Recognized
	for i, x := range c.Elements {
		// Without steps down only the element itself matters: a catalog that has no other one spares the search.
		alone := api.Catalog{Elements: c.Elements[i : i+1]}
		list = append(list, recognize.Item(alone, api.Item{Code: x.Code}))
	}
	return list
}

// net returns the net difficulty of a result.
func net(r Result) int64 {
	return r.Worth + r.Connections - r.Deductions
}
