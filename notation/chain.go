package notation

import (
	"slices"

	"salchow/api"
)

// Chains returns the longest runs of joined items: the index of the first item and the one behind the last.
func Chains(items []api.Item) [][2]int {
	var chains [][2]int
	first := 0
	for i, x := range items {
		if !x.Joined || i == len(items)-1 {
			chains = append(chains, [2]int{first, i + 1})
			first = i + 1
		}
	}
	return chains
}

// Split returns the items of each chain.
func Split(items []api.Item) [][]api.Item {
	var chains [][]api.Item
	for _, chain := range Chains(items) {
		chains = append(chains, slices.Clone(items[chain[0]:chain[1]]))
	}
	return chains
}

// Merge returns the items of all chains, one after the other.
func Merge(chains [][]api.Item) ([]api.Item, api.Errno) {
	if slices.ContainsFunc(chains, func(chain []api.Item) bool { return len(chain) == 0 }) {
		return nil, api.ErrArgument
	}
	var items []api.Item
	for _, chain := range chains {
		// Chains may share memory, so there is no bound for all their items.
		if len(items)+len(chain) > api.MaxItems {
			return nil, api.ErrLimit
		}
		for i, x := range chain {
			x.Joined = i < len(chain)-1
			items = append(items, x)
		}
	}
	if e := checkEach(items); e != api.OK {
		return nil, e
	}
	return items, api.OK
}
