package season

import (
	"cmp"
	"maps"
	"slices"
	"strings"

	"salchow/api"
	"salchow/parser"
)

// arranged returns entries in an order in which everything stands behind what it needs, if there is such an order.
func arranged(entries []api.Clause) []api.Clause {
	sorted := slices.Clone(entries)
	slices.SortFunc(sorted, func(a, b api.Clause) int {
		return cmp.Or(cmp.Compare(rankOf(a.Word), rankOf(b.Word)), strings.Compare(keyOf(a), keyOf(b)))
	})
	isElement := func(entry api.Clause) bool { return entry.Word == wordElement }
	if first := slices.IndexFunc(sorted, isElement); first >= 0 {
		copy(sorted[first:], climbing(parser.Find(sorted, wordElement)))
	}
	return sorted
}

// rankOf returns the rank of a word in the order of the entries of a ruleset.
func rankOf(word string) int {
	words := []string{wordDiscipline, wordPublish, wordRank, wordGroup, wordClass, wordElement, wordConnect, wordSegment, wordTie}
	rank := slices.Index(words, word)
	if rank < 0 {
		return len(words)
	}
	return rank
}

// climbing returns elements that are sorted by their keys in an order in which the next one is always the first one that has no lower one, or whose lower one stands before.
func climbing(elements []api.Clause) []api.Clause {
	var order []api.Clause
	var ready []int
	waiting := map[string][]int{} // by the keys of the lower elements
	for i, element := range elements {
		if key, ok := lowerKey(element); ok {
			waiting[key] = append(waiting[key], i)
		} else {
			ready = append(ready, i)
		}
	}
	for len(ready) > 0 {
		next := elements[ready[0]]
		ready = ready[1:]
		order = append(order, next)
		for _, i := range waiting[keyOf(next)] {
			at, _ := slices.BinarySearch(ready, i)
			ready = slices.Insert(ready, at, i)
		}
		delete(waiting, keyOf(next))
	}
	rest := slices.Concat(slices.Collect(maps.Values(waiting))...)
	slices.Sort(rest)
	for _, i := range rest {
		order = append(order, elements[i])
	}
	return order
}

// lowerKey returns the key of the lower element of an element, and whether it has one.
func lowerKey(element api.Clause) (string, bool) {
	n := len(element.Atoms)
	if n < 2 {
		return "", false
	}
	before, last := element.Atoms[n-2], element.Atoms[n-1]
	return wordElement + " " + last.Text, before.Kind == api.TokWord && before.Text == wordLower
}
