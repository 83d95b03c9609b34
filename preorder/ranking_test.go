package preorder

import (
	"math"
	"math/rand"
	"slices"
	"testing"

	"salchow/api"
)

// lists returns all lists of a length of the numbers from 0 to most.
func lists(length, most int) [][]int {
	all := [][]int{nil}
	for range length {
		var longer [][]int
		for _, list := range all {
			for n := range most + 1 {
				longer = append(longer, append(slices.Clone(list), n))
			}
		}
		all = longer
	}
	return all
}

// isRanking reports whether a list is a ranking, by the definition.
func isRanking(list []int) bool {
	return slices.Equal(list, definedPlaces(len(list), func(i, k int) bool { return list[i] < list[k] }))
}

// rankings returns all rankings of a length.
func rankings(length int) [][]int {
	return slices.DeleteFunc(lists(length, length), func(list []int) bool { return !isRanking(list) })
}

// randomRanking returns a ranking with ties.
func randomRanking(random *rand.Rand, length int) []int {
	marks := make([]int, length)
	for i := range marks {
		marks[i] = random.Intn(1 + length*2/3)
	}
	return definedPlaces(length, func(i, k int) bool { return marks[i] < marks[k] })
}

// noRankings are lists that are no rankings, of the lengths 1 to 4.
var noRankings = [][]int{{0}, {2}, {-1}, {math.MinInt}, {math.MaxInt}, {0, 1}, {2, 2}, {1, 3}, {2, 3}, {1, 2, 2, 3}, {1, 1, 2}, {1, 3, 3, 3}, {2, 3, 4}, {1, 2, 4}, {math.MinInt, math.MaxInt}}

func TestRanking(t *testing.T) {
	for length := range 6 {
		found := 0
		for _, list := range lists(length, length+1) {
			before := slices.Clone(list)
			if got := Ranking(list); got != isRanking(list) {
				t.Errorf("Ranking(%v): %v", list, got)
			} else if got {
				found++
			}
			if !slices.Equal(list, before) {
				t.Errorf("%v was changed: %v", before, list)
			}
		}
		// The numbers of the weak orders of so many things.
		if found != []int{1, 1, 3, 13, 75, 541}[length] {
			t.Errorf("%d rankings of length %d", found, length)
		}
	}
	for _, list := range noRankings {
		if Ranking(list) {
			t.Errorf("%v is no ranking", list)
		}
	}
	if !Ranking([]int{1, 2, 2, 4}) || !Ranking([]int{}) {
		t.Error("1, 2, 2, 4 and the empty list are rankings")
	}
}

func TestRankingOfLongLists(t *testing.T) {
	list := make([]int, 300000)
	for i := range list {
		list[i] = len(list) - i
	}
	if !Ranking(list) || !Ranking(slices.Repeat([]int{1}, 300000)) {
		t.Error("a long ranking")
	}
	list[7] = 1
	if Ranking(list) {
		t.Error("a long list that is no ranking")
	}
}

func TestEveryRankingArisesFromRows(t *testing.T) {
	for length := range 6 {
		for _, list := range rankings(length) {
			var rows [][]api.Frac
			for _, place := range list {
				rows = append(rows, row(int64(-place)))
			}
			if got, e := Places(rows); e != api.OK || !slices.Equal(got, list) {
				t.Errorf("%v: %v, %d", list, got, e)
			}
		}
	}
}

func TestRefine(t *testing.T) {
	random := rand.New(rand.NewSource(4))
	for range 300 {
		n := random.Intn(9)
		places, rows := randomRanking(random, n), randomMatrix(random, n, random.Intn(3))
		beforePlaces, beforeRows := slices.Clone(places), deep(rows)
		want := definedPlaces(n, func(i, k int) bool {
			return places[i] < places[k] || places[i] == places[k] && ranksAhead(rows[i], rows[k])
		})
		if got, e := Refine(places, rows); e != api.OK || !slices.Equal(got, want) {
			t.Errorf("Refine(%v, %v): %v, %d; want %v", places, rows, got, e, want)
		}
		if !slices.Equal(places, beforePlaces) || !equalMatrices(rows, beforeRows) {
			t.Errorf("an argument was changed")
		}
	}
	if got, e := Refine([]int{1, 1, 3}, [][]api.Frac{row(1), row(2), row(9)}); e != api.OK || !slices.Equal(got, []int{2, 1, 3}) {
		t.Errorf("Refine: %v, %d", got, e)
	}
}

func TestRefineIsTheMatrixOfBoth(t *testing.T) {
	random := rand.New(rand.NewSource(5))
	for range 300 {
		n, columns := random.Intn(12), random.Intn(20)
		a, b := randomMatrix(random, n, columns), randomMatrix(random, n, random.Intn(20-columns))
		both := make([][]api.Frac, n)
		for i := range both {
			both[i] = slices.Concat(a[i], b[i])
		}
		places, _ := Places(a)
		refined, e := Refine(places, b)
		if want, f := Places(both); e != api.OK || f != api.OK || !slices.Equal(refined, want) {
			t.Errorf("%v, %v: %v, %v", a, b, refined, want)
		}
	}
}

func TestRefineErrors(t *testing.T) {
	for _, list := range noRankings {
		if got, e := Refine(list, make([][]api.Frac, len(list))); e != api.ErrArgument || len(got) != 0 {
			t.Errorf("Refine(%v): %v, %d", list, got, e)
		}
	}
	for name, c := range map[string]struct {
		places []int
		rows   [][]api.Frac
		want   api.Errno
	}{
		"nothing":                             {nil, nil, api.OK},
		"no places":                           {nil, [][]api.Frac{row(1)}, api.ErrArgument},
		"no rows":                             {[]int{1}, nil, api.ErrArgument},
		"too few places":                      {[]int{1}, [][]api.Frac{row(1), row(1)}, api.ErrArgument},
		"too many places":                     {[]int{1, 2}, [][]api.Frac{row(1)}, api.ErrArgument},
		"no ranking, and an invalid row":      {[]int{2}, [][]api.Frac{invalid[:1]}, api.ErrArgument},
		"no ranking, and too many rows":       {[]int{2}, make([][]api.Frac, 201), api.ErrLimit},
		"no ranking, and a row of 21":         {[]int{2}, [][]api.Frac{make([]api.Frac, 21)}, api.ErrLimit},
		"a ranking of 201, and too many rows": {slices.Repeat([]int{1}, 201), make([][]api.Frac, 201), api.ErrLimit},
		"a ranking of 201":                    {slices.Repeat([]int{1}, 201), make([][]api.Frac, 200), api.ErrArgument},
	} {
		if got, e := Refine(c.places, c.rows); e != c.want || len(got) != 0 {
			t.Errorf("%s: %v, %d; want %d", name, got, e, c.want)
		}
	}
}

// sign returns -1, 0 or 1.
func sign(n int) int {
	switch {
	case n < 0:
		return -1
	case n > 0:
		return 1
	}
	return 0
}

// definedInversions returns the results of Inversions, by the definition.
func definedInversions(a, b []int) (int, int) {
	opposite, tied := 0, 0
	for k := range a {
		opposite += countIf(k, func(i int) bool { return sign(a[i]-a[k])*sign(b[i]-b[k]) < 0 })
		tied += countIf(k, func(i int) bool { return (a[i] == a[k]) != (b[i] == b[k]) })
	}
	return opposite, tied
}

// checkInversions compares Inversions with the definition.
func checkInversions(t *testing.T, a, b []int) {
	t.Helper()
	beforeA, beforeB := slices.Clone(a), slices.Clone(b)
	opposite, tied, e := Inversions(a, b)
	if x, y := definedInversions(a, b); e != api.OK || opposite != x || tied != y {
		t.Errorf("Inversions(%v, %v): %d, %d, %d; want %d, %d", a, b, opposite, tied, e, x, y)
	}
	if !slices.Equal(a, beforeA) || !slices.Equal(b, beforeB) {
		t.Errorf("an argument of Inversions was changed")
	}
}

func TestInversions(t *testing.T) {
	for length := range 5 {
		for _, a := range rankings(length) {
			for _, b := range rankings(length) {
				checkInversions(t, a, b)
			}
		}
	}
	random := rand.New(rand.NewSource(6))
	for n := 5; n < 120; n += 3 {
		checkInversions(t, randomRanking(random, n), randomRanking(random, n))
	}
	for _, c := range []struct {
		a, b           []int
		opposite, tied int
	}{{[]int{1, 2, 3}, []int{3, 2, 1}, 3, 0}, {[]int{1, 1, 3}, []int{1, 2, 3}, 0, 1}, {nil, nil, 0, 0}, {[]int{1}, []int{1}, 0, 0}} {
		if x, y, e := Inversions(c.a, c.b); e != api.OK || x != c.opposite || y != c.tied {
			t.Errorf("Inversions(%v, %v): %d, %d, %d", c.a, c.b, x, y, e)
		}
	}
}

func TestInversionsOfLongRankings(t *testing.T) {
	const n = 100000
	var up, down []int
	for i := range n {
		up, down = append(up, i+1), append(down, n-i)
	}
	const pairs = n * (n - 1) / 2
	if x, y, e := Inversions(up, down); e != api.OK || x != pairs || y != 0 {
		t.Errorf("%d, %d, %d", x, y, e)
	}
	if x, y, e := Inversions(up, slices.Repeat([]int{1}, n)); e != api.OK || x != 0 || y != pairs {
		t.Errorf("%d, %d, %d", x, y, e)
	}
}

func TestInversionsTriangle(t *testing.T) {
	var strict [][]int
	for _, list := range rankings(4) {
		if ties(list) == 0 {
			strict = append(strict, list)
		}
	}
	if len(strict) != 24 {
		t.Fatalf("%d rankings without ties", len(strict))
	}
	distance := func(a, b []int) int { n, _, _ := Inversions(a, b); return n }
	for _, a := range strict {
		for _, b := range strict {
			for _, c := range strict {
				if distance(a, c) > distance(a, b)+distance(b, c) {
					t.Errorf("%v, %v, %v", a, b, c)
				}
			}
		}
	}
}

func TestErrorsOfRankings(t *testing.T) {
	check := func(list [][]int, want api.Errno) {
		t.Helper()
		if pairs, e := Agreed(list); e != want || e != api.OK && len(pairs) != 0 {
			t.Errorf("Agreed(%v): %v, %d; want %d", list, pairs, e, want)
		}
		if places, e := Median(list); e != want || e != api.OK && len(places) != 0 {
			t.Errorf("Median(%v): %v, %d; want %d", list, places, e, want)
		}
		if len(list) != 2 {
			return
		}
		if x, y, e := Inversions(list[0], list[1]); e != want || e != api.OK && (x != 0 || y != 0) {
			t.Errorf("Inversions(%v): %d, %d, %d; want %d", list, x, y, e, want)
		}
	}
	for _, list := range noRankings {
		good := make([]int, len(list))
		for i := range good {
			good[i] = i + 1
		}
		check([][]int{list}, api.ErrArgument)
		check([][]int{list, list}, api.ErrArgument)
		check([][]int{list, good}, api.ErrArgument)
		check([][]int{good, list}, api.ErrArgument)
		check([][]int{good, good, list}, api.ErrArgument)
		check([][]int{good, good}, api.OK)
		check(slices.Repeat([][]int{list}, 51), api.ErrLimit)
	}
	check([][]int{{1}, {1, 2}}, api.ErrArgument)
	check([][]int{{1, 2}, {1}}, api.ErrArgument)
	check([][]int{nil, {1}}, api.ErrArgument)
	check([][]int{{1}, nil}, api.ErrArgument)
	check([][]int{{1}, {1}, {1, 1}}, api.ErrArgument)
	check([][]int{nil, {}}, api.OK)
	check(make([][]int, 50), api.OK)
	check(make([][]int, 51), api.ErrLimit)
	check(slices.Repeat([][]int{{1, 2, 2}}, 50), api.OK)
	check(append(slices.Repeat([][]int{{1, 2, 2}}, 50), nil), api.ErrLimit)
	for _, none := range [][][]int{nil, {}} {
		if pairs, e := Agreed(none); e != api.OK || len(pairs) != 0 {
			t.Errorf("Agreed of no rankings: %v, %d", pairs, e)
		}
		if places, e := Median(none); e != api.ErrArgument || len(places) != 0 {
			t.Errorf("Median of no rankings: %v, %d", places, e)
		}
	}
}

// someRankings returns lists of rankings of one length, among them some that often agree.
func someRankings() [][][]int {
	random := rand.New(rand.NewSource(7))
	var all [][][]int
	for range 300 {
		n := random.Intn(7)
		var list [][]int
		for range 1 + random.Intn(6) {
			list = append(list, randomRanking(random, n))
		}
		all = append(all, list)
	}
	for _, a := range rankings(3) {
		for _, b := range rankings(3) {
			all = append(all, [][]int{a, b})
		}
	}
	var most [][]int
	for range 50 {
		most = append(most, randomRanking(random, 40))
	}
	return append(all, most)
}

// deepLists returns a copy of lists that shares no memory with them.
func deepLists(list [][]int) [][]int {
	out := slices.Clone(list)
	for i := range out {
		out[i] = slices.Clone(out[i])
	}
	return out
}

func TestAgreed(t *testing.T) {
	for _, list := range someRankings() {
		before := deepLists(list)
		var want [][2]int
		for i := range list[0] {
			for k := range list[0] {
				if countIf(len(list), func(r int) bool { return list[r][i] < list[r][k] }) == len(list) {
					want = append(want, [2]int{i, k})
				}
			}
		}
		got, e := Agreed(list)
		if e != api.OK || !slices.Equal(got, want) {
			t.Errorf("Agreed(%v): %v, %d; want %v", list, got, e, want)
		}
		for _, p := range got {
			for _, q := range got {
				if p[1] == q[0] && !slices.Contains(got, [2]int{p[0], q[1]}) {
					t.Errorf("Agreed(%v) is not transitive: %v, %v", list, p, q)
				}
			}
		}
		if !equalGroups(list, before) {
			t.Errorf("%v was changed: %v", before, list)
		}
	}
	if got, e := Agreed([][]int{{1, 2, 3}, {1, 3, 2}, {2, 1, 3}}); e != api.OK || !slices.Equal(got, [][2]int{{0, 2}}) {
		t.Errorf("Agreed: %v, %d", got, e)
	}
	if got, e := Agreed([][]int{{3, 1, 1}}); e != api.OK || !slices.Equal(got, [][2]int{{1, 0}, {2, 0}}) {
		t.Errorf("Agreed: %v, %d", got, e)
	}
}

// median returns the number of a list that has at most (n-1)/2 others before it and stands behind them.
func median(list []int) int {
	for _, x := range list {
		less := countIf(len(list), func(i int) bool { return list[i] < x })
		same := countIf(len(list), func(i int) bool { return list[i] == x })
		if at := (len(list) - 1) / 2; less <= at && at < less+same {
			return x
		}
	}
	return 0
}

func TestMedian(t *testing.T) {
	for _, list := range someRankings() {
		before := deepLists(list)
		medians := make([]int, len(list[0]))
		for i := range medians {
			var numbers []int
			for _, places := range list {
				numbers = append(numbers, places[i])
			}
			medians[i] = median(numbers)
		}
		want := definedPlaces(len(medians), func(i, k int) bool { return medians[i] < medians[k] })
		if got, e := Median(list); e != api.OK || !slices.Equal(got, want) || !Ranking(got) {
			t.Errorf("Median(%v): %v, %d; want %v", list, got, e, want)
		}
		if !equalGroups(list, before) {
			t.Errorf("%v was changed: %v", before, list)
		}
	}
	for _, c := range []struct {
		list [][]int
		want []int
	}{
		{[][]int{{1, 2, 3}, {1, 3, 2}, {2, 1, 3}}, []int{1, 2, 3}},
		{[][]int{{1, 2}, {2, 1}}, []int{1, 1}},
		{[][]int{{1, 2, 3}, {3, 2, 1}, {3, 1, 1}, {1, 2, 3}}, []int{1, 3, 1}},
		{[][]int{nil}, nil},
	} {
		if got, e := Median(c.list); e != api.OK || !slices.Equal(got, c.want) {
			t.Errorf("Median(%v): %v, %d; want %v", c.list, got, e, c.want)
		}
	}
}

func TestMedianOfEqualRankings(t *testing.T) {
	for _, list := range rankings(4) {
		for _, n := range []int{1, 2, 3, 50} {
			equal := slices.Repeat([][]int{list}, n)
			got, e := Median(equal)
			if e != api.OK || !slices.Equal(got, list) {
				t.Errorf("Median of %v, %d times: %v, %d", list, n, got, e)
			}
			got[0] = -1
			if list[0] == -1 {
				t.Fatalf("the result of Median shares memory with its argument")
			}
		}
	}
}
