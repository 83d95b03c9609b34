package preorder

import (
	"cmp"
	"slices"

	"salchow/api"
)

// maxRankings is the greatest number of rankings that are compared at once.
const maxRankings = 50

// Ranking reports whether places are the places of some rows.
func Ranking(places []int) bool {
	return slices.Equal(places, placed(places, cmp.Compare[int]))
}

// Refine returns the places of the rows if those with a lesser place rank ahead, and those with equal places are ranked by their rows.
func Refine(places []int, rows [][]api.Frac) ([]int, api.Errno) {
	if e := Check(rows); e != api.OK {
		return nil, e
	}
	if len(places) != len(rows) || !Ranking(places) {
		return nil, api.ErrArgument
	}
	refined := func(i, k int) int {
		if places[i] != places[k] {
			return cmp.Compare(places[i], places[k])
		}
		return ahead(rows[i], rows[k])
	}
	return placed(indices(len(rows)), refined), api.OK
}

// Inversions returns the number of pairs that two rankings order in opposite ways, and of those that exactly one of them ties.
func Inversions(a, b []int) (int, int, api.Errno) {
	if e := checkRankings(a, b); e != api.OK {
		return 0, 0, e
	}
	pairs := make([][2]int, len(a))
	for i := range a {
		pairs[i] = [2]int{a[i], b[i]}
	}
	tied := ties(a) + ties(b) - 2*ties(pairs)
	// In this order a pair stands in descending order by b only if a and b order it in opposite ways.
	slices.SortFunc(pairs, func(p, q [2]int) int { return slices.Compare(p[:], q[:]) })
	second := make([]int, len(pairs))
	for i, p := range pairs {
		second[i] = p[1]
	}
	return descents(second), tied, api.OK
}

// Agreed returns the pairs (i, j) for which i ranks ahead of j in all rankings.
func Agreed(rankings [][]int) ([][2]int, api.Errno) {
	if e := checkRankings(rankings...); e != api.OK || len(rankings) == 0 {
		return nil, e
	}
	var pairs [][2]int
	for i := range rankings[0] {
		for k := range rankings[0] {
			doubted := func(places []int) bool { return places[i] >= places[k] }
			if !slices.ContainsFunc(rankings, doubted) {
				pairs = append(pairs, [2]int{i, k})
			}
		}
	}
	return pairs, api.OK
}

// Median returns a ranking by the medians of the places in several rankings.
func Median(rankings [][]int) ([]int, api.Errno) {
	if e := checkRankings(rankings...); e != api.OK {
		return nil, e
	}
	if len(rankings) == 0 {
		return nil, api.ErrArgument
	}
	medians := make([]int, len(rankings[0]))
	numbers := make([]int, len(rankings))
	for i := range medians {
		for k, places := range rankings {
			numbers[k] = places[i]
		}
		slices.Sort(numbers)
		medians[i] = numbers[(len(numbers)-1)/2]
	}
	return placed(medians, cmp.Compare[int]), api.OK
}

// checkRankings returns OK if lists are not too many rankings, of one length.
func checkRankings(lists ...[]int) api.Errno {
	if len(lists) > maxRankings {
		return api.ErrLimit
	}
	for _, list := range lists {
		if len(list) != len(lists[0]) || !Ranking(list) {
			return api.ErrArgument
		}
	}
	return api.OK
}
