package matching

import (
	"slices"

	"salchow/api"
)

// Weight returns the weight of a cover: a bound of the size of every matching.
func Weight(g api.Graph, c api.Cover) (int, api.Errno) {
	if e := Check(g); e != api.OK {
		return 0, e
	}
	if !increasing(c.Left, g.Left) || !increasing(c.Right, g.Right) {
		return 0, api.ErrArgument
	}
	weight := 0
	for _, i := range c.Left {
		weight += g.Left[i]
	}
	for _, i := range c.Right {
		weight += g.Right[i]
	}
	for _, edge := range g.Edges {
		if !slices.Contains(c.Left, edge[0]) && !slices.Contains(c.Right, edge[1]) {
			weight++
		}
	}
	return weight, api.OK
}

// Cover returns the cover of the least weight, of several ones the one with the most left and the fewest right vertices.
func Cover(g api.Graph) (api.Cover, api.Errno) {
	if e := Check(g); e != api.OK {
		return api.Cover{}, e
	}
	n := filled(g)
	// What the source still reaches lies on its side of every least cut: no cover of the least weight has more left or fewer right vertices.
	by := n.search(n.source)
	return api.Cover{
		Left:  indices(g.Left, func(i int) bool { return by[i] == unreached }),
		Right: indices(g.Right, func(i int) bool { return by[len(g.Left)+i] != unreached }),
	}, api.OK
}

// indices returns the indices of a list that a condition selects.
func indices[T any](list []T, selected func(i int) bool) []int {
	var found []int
	for i := range list {
		if selected(i) {
			found = append(found, i)
		}
	}
	return found
}

// Proves reports whether edges are a matching that the cover proves to be a greatest one.
func Proves(g api.Graph, edges []int, c api.Cover) bool {
	weight, e := Weight(g, c)
	return e == api.OK && matches(g, edges) && len(edges) == weight
}

// Violator returns left vertices whose capacities cannot all be used up, if there are any.
func Violator(g api.Graph) ([]int, api.Errno) {
	c, e := Cover(g)
	if e != api.OK {
		return nil, e
	}
	outside := indices(g.Left, func(i int) bool { return !slices.Contains(c.Left, i) })
	// The left vertices are all in the cover if and only if their capacities are the size of the greatest matchings.
	if len(outside) == 0 {
		return nil, api.ErrNone
	}
	return outside, api.OK
}
