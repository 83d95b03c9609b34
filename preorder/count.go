package preorder

import (
	"cmp"
	"slices"
	"sort"
)

// count returns the number of elements that a condition selects, in a list in which these stand before all others.
func count[T any](list []T, selected func(x T) bool) int {
	return sort.Search(len(list), func(i int) bool { return !selected(list[i]) })
}

// placed returns the place of each element of a list: one more than the number of elements that stand before it in an order.
func placed[T any](list []T, order func(a, b T) int) []int {
	sorted := slices.Clone(list)
	slices.SortFunc(sorted, order)
	places := make([]int, len(list))
	for i, x := range list {
		places[i] = 1 + count(sorted, func(y T) bool { return order(y, x) < 0 })
	}
	return places
}

// ties returns the number of pairs of equal elements.
func ties[T comparable](list []T) int {
	n := 0
	seen := map[T]int{}
	for _, x := range list {
		n += seen[x]
		seen[x]++
	}
	return n
}

// descents returns the number of pairs of a list of which the first number is greater.
func descents(list []int) int {
	if len(list) < 2 {
		return 0
	}
	left, right := list[:len(list)/2], list[len(list)/2:]
	n := descents(left) + descents(right)
	// From the greatest to the least, so that those which are greater than a number stand before all others.
	sorted := slices.Clone(left)
	slices.SortFunc(sorted, func(x, y int) int { return cmp.Compare(y, x) })
	for _, x := range right {
		n += count(sorted, func(y int) bool { return y > x })
	}
	return n
}
