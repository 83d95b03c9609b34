package counting

import (
	"slices"

	"salchow/api"
)

// Best returns the choice that counts.
func Best(c api.Catalog, s api.Segment, items []api.Recognized) (api.Choice, api.Errno) {
	if e := Check(c, s, items); e != api.OK {
		return api.Choice{}, e
	}
	f := newSearch(c, s, items)
	var best api.Choice
	for set := range f.sets() {
		p, ok := f.pick(set)
		if !ok {
			continue
		}
		worth := p.values + f.credits(set)
		// All picks have as many items as the limits allow, so that none of them begins with another one.
		if worth > best.Worth || worth == best.Worth && slices.Compare(p.items, best.Items) < 0 {
			best = api.Choice{Items: p.items, Worth: worth}
		}
	}
	best.Items = f.trim(best.Items)
	return best, api.OK
}

// trim takes items that add nothing from the end of a choice: the shorter choice is the first one.
func (f *search) trim(chosen []int) []int {
	end := 0
	earned := map[int]bool{}
	for n, i := range chosen {
		x := f.items[i]
		group := f.home[x.Code]
		if x.Value > 0 || f.groups[group].Credit > 0 && !earned[group] {
			end = n + 1
		}
		earned[group] = true
	}
	return chosen[:end]
}

// Within returns the greatest sum of values of a choice with at least one item of each of the given groups, and whether there is such a choice.
func Within(c api.Catalog, s api.Segment, items []api.Recognized, set []string) (int64, bool) {
	if Check(c, s, items) != api.OK {
		return 0, false
	}
	f := newSearch(c, s, items)
	var groups uint
	for _, name := range set {
		i, ok := f.number[name]
		if !ok {
			return 0, false
		}
		groups |= 1 << i
	}
	p, ok := f.pick(groups)
	return p.values, ok
}
