package preorder

import (
	"math"
	"math/rand"
	"slices"
	"testing"

	"salchow/api"
	"salchow/fraction"
)

// row returns a row of integers.
func row(list ...int64) []api.Frac {
	var out []api.Frac
	for _, n := range list {
		out = append(out, api.Frac{Num: n, Den: 1})
	}
	return out
}

// invalid are values of api.Frac that are no fractions.
var invalid = []api.Frac{{}, {Num: 1}, {Num: 2, Den: 4}, {Num: 1, Den: -1}, {Num: 0, Den: 2}, {Num: api.MaxNum + 1, Den: 1}, {Num: 1, Den: math.MinInt64}, {Num: math.MinInt64, Den: 1}}

// criteria are fractions, from the least to the greatest.
var criteria = []api.Frac{
	{Num: -api.MaxNum, Den: 1}, {Num: -3, Den: 2}, {Num: 0, Den: 1}, {Num: 1, Den: api.MaxDen}, {Num: 333333333333333333, Den: api.MaxDen},
	{Num: 1, Den: 3}, {Num: 1, Den: 2}, {Num: api.MaxNum - 1, Den: api.MaxDen}, {Num: 1, Den: 1}, {Num: api.MaxNum, Den: 1},
}

// randomMatrix returns a matrix whose rows tie often.
func randomMatrix(random *rand.Rand, rows, columns int) [][]api.Frac {
	matrix := make([][]api.Frac, rows)
	few := 1 + random.Intn(4)
	at := random.Intn(len(criteria) - few)
	for i := range matrix {
		for range columns {
			matrix[i] = append(matrix[i], criteria[at+random.Intn(few)])
		}
	}
	return matrix
}

// matrices returns matrices of many sizes, the greatest one included.
func matrices() [][][]api.Frac {
	random := rand.New(rand.NewSource(1))
	list := [][][]api.Frac{nil, {}, {nil}, {nil, {}, nil}, {row(1)}, randomMatrix(random, 200, 20), randomMatrix(random, 200, 1), make([][]api.Frac, 200)}
	for rows := range 9 {
		for columns := range 4 {
			for range 5 {
				list = append(list, randomMatrix(random, rows, columns))
			}
		}
	}
	return list
}

// rank returns the index of a value in criteria.
func rank(a api.Frac) int { return slices.Index(criteria, a) }

// ranksAhead reports whether a row of criteria ranks ahead of another one, by the definition.
func ranksAhead(a, b []api.Frac) bool {
	for i := range a {
		if a[i] != b[i] {
			return rank(a[i]) > rank(b[i])
		}
	}
	return false
}

// countIf returns the number of indices below n that a condition selects.
func countIf(n int, selected func(i int) bool) int {
	found := 0
	for i := range n {
		if selected(i) {
			found++
		}
	}
	return found
}

// definedPlaces returns the places of n things, by the definition.
func definedPlaces(n int, ahead func(i, k int) bool) []int {
	places := make([]int, n)
	for k := range places {
		places[k] = 1 + countIf(n, func(i int) bool { return ahead(i, k) })
	}
	return places
}

// deep returns a copy of a matrix that shares no memory with it.
func deep(rows [][]api.Frac) [][]api.Frac {
	out := slices.Clone(rows)
	for i := range out {
		out[i] = slices.Clone(out[i])
	}
	return out
}

func equalMatrices(a, b [][]api.Frac) bool {
	return slices.EqualFunc(a, b, func(x, y []api.Frac) bool { return slices.Equal(x, y) })
}

func equalGroups(a, b [][]int) bool {
	return slices.EqualFunc(a, b, func(x, y []int) bool { return slices.Equal(x, y) })
}

func TestPlacesOrderAndGroups(t *testing.T) {
	for n, rows := range matrices() {
		before := deep(rows)
		if e := Check(rows); e != api.OK {
			t.Fatalf("matrix %d: Check: %d", n, e)
		}
		places, e := Places(rows)
		if want := definedPlaces(len(rows), func(i, k int) bool { return ranksAhead(rows[i], rows[k]) }); e != api.OK || !slices.Equal(places, want) {
			t.Errorf("matrix %d: Places: %v, %d; want %v", n, places, e, want)
		}
		if !Ranking(places) {
			t.Errorf("matrix %d: the places are no ranking: %v", n, places)
		}
		var order []int
		var groups [][]int
		for place := 1; place <= len(rows); place++ {
			var group []int
			for i := range rows {
				if places[i] == place {
					group = append(group, i)
				}
			}
			order = append(order, group...)
			if len(group) > 0 {
				groups = append(groups, group)
			}
		}
		if got, e := Order(rows); e != api.OK || !slices.Equal(got, order) {
			t.Errorf("matrix %d: Order: %v, %d; want %v", n, got, e, order)
		}
		if got, e := Groups(rows); e != api.OK || !equalGroups(got, groups) {
			t.Errorf("matrix %d: Groups: %v, %d; want %v", n, got, e, groups)
		}
		if !equalMatrices(rows, before) {
			t.Errorf("matrix %d was changed", n)
		}
	}
}

func TestPlacesDoNotDependOnTheOrderOfRows(t *testing.T) {
	random := rand.New(rand.NewSource(2))
	for n, rows := range matrices() {
		places, _ := Places(rows)
		p := random.Perm(len(rows))
		moved := make([][]api.Frac, len(rows))
		for i, k := range p {
			moved[k] = rows[i]
		}
		got, e := Places(moved)
		for i, k := range p {
			if e != api.OK || got[k] != places[i] {
				t.Errorf("matrix %d: row %d, moved to %d: %v, %v, %d", n, i, k, places, got, e)
			}
		}
	}
}

func TestExamplesOfRows(t *testing.T) {
	rows := [][]api.Frac{row(2, 1), row(3, 0), row(2, 1), row(2, 5)}
	if p, e := Places(rows); e != api.OK || !slices.Equal(p, []int{3, 1, 3, 2}) {
		t.Errorf("Places: %v, %d", p, e)
	}
	if o, e := Order(rows); e != api.OK || !slices.Equal(o, []int{1, 3, 0, 2}) {
		t.Errorf("Order: %v, %d", o, e)
	}
	if g, e := Groups(rows); e != api.OK || !equalGroups(g, [][]int{{1}, {3}, {0, 2}}) {
		t.Errorf("Groups: %v, %d", g, e)
	}
}

func TestCompare(t *testing.T) {
	for _, c := range []struct {
		a, b      []api.Frac
		order, at int
	}{
		{row(2, 1), row(2, 5), -1, 1},
		{row(2, 5), row(2, 1), 1, 1},
		{row(1, 2), row(2, 1), -1, 0},
		{row(2, 1), row(1, 2), 1, 0},
		{row(2, 1), row(2, 1), 0, -1},
		{nil, nil, 0, -1},
		{nil, row(1), 0, -1},
		{row(1), nil, 0, -1},
		{row(1), row(1, 2), 0, -1},
		{row(1, 2, 3), row(1, 2), 0, -1},
		{row(1, 2, 3), row(1, 3), -1, 1},
		{row(0), row(-1, 7), 1, 0},
		{invalid[:1], invalid[2:3], 0, -1},
		{invalid[:1], criteria[:1], -1, 0},
		{criteria[:1], invalid[2:3], 1, 0},
		{[]api.Frac{invalid[1], {Num: 1, Den: 2}}, []api.Frac{invalid[2], {Num: 1, Den: 3}}, 1, 1},
		{make([]api.Frac, 300), append(make([]api.Frac, 299), criteria[0]), -1, 299},
		{criteria, criteria, 0, -1},
		{criteria[4:5], criteria[5:6], -1, 0},
	} {
		if order, at := Compare(c.a, c.b); order != c.order || at != c.at {
			t.Errorf("Compare(%v, %v): %d, %d; want %d, %d", c.a, c.b, order, at, c.order, c.at)
		}
	}
}

func TestCompareFollowsTheDefinition(t *testing.T) {
	random := rand.New(rand.NewSource(3))
	for range 2000 {
		a, b := randomMatrix(random, 1, random.Intn(5))[0], randomMatrix(random, 1, random.Intn(5))[0]
		order, at := 0, -1
		for i := 0; i < len(a) && i < len(b) && order == 0; i++ {
			if order = fraction.Cmp(a[i], b[i]); order != 0 {
				at = i
			}
		}
		if got, index := Compare(a, b); got != order || index != at {
			t.Errorf("Compare(%v, %v): %d, %d; want %d, %d", a, b, got, index, order, at)
		}
	}
}

// expect compares the errors of the functions of rows with one; with an error they have to return nothing else.
func expect(t *testing.T, name string, rows [][]api.Frac, want api.Errno) {
	t.Helper()
	order, e1 := Order(rows)
	places, e2 := Places(rows)
	groups, e3 := Groups(rows)
	refined, e4 := Refine(slices.Repeat([]int{1}, len(rows)), rows)
	if e1 != api.OK && len(order)+len(places)+len(groups)+len(refined) > 0 {
		t.Errorf("%s: results beside errors: %v, %v, %v, %v", name, order, places, groups, refined)
	}
	if e := Check(rows); e != want || e1 != want || e2 != want || e3 != want || e4 != want {
		t.Errorf("%s: %d, %d, %d, %d, %d; want %d", name, e, e1, e2, e3, e4, want)
	}
}

func TestLimitsAndErrorsOfRows(t *testing.T) {
	ones := func(n int) []api.Frac { return row(slices.Repeat([]int64{1}, n)...) }
	repeat := func(n int, r []api.Frac) [][]api.Frac { return slices.Repeat([][]api.Frac{r}, n) }
	cases := map[string]struct {
		rows [][]api.Frac
		want api.Errno
	}{
		"no rows":                        {nil, api.OK},
		"rows without criteria":          {make([][]api.Frac, 200), api.OK},
		"the greatest matrix":            {repeat(200, ones(20)), api.OK},
		"201 rows":                       {make([][]api.Frac, 201), api.ErrLimit},
		"201 rows of different lengths":  {append(repeat(200, ones(1)), nil), api.ErrLimit},
		"201 rows, an invalid criterion": {repeat(201, invalid[:1]), api.ErrLimit},
		"21 criteria":                    {repeat(1, ones(21)), api.ErrLimit},
		"21 invalid criteria":            {repeat(1, make([]api.Frac, 21)), api.ErrLimit},
		"21 criteria in the last row":    {append(repeat(3, ones(2)), ones(21)), api.ErrLimit},
		"21 criteria behind an invalid":  {[][]api.Frac{invalid[:1], ones(21)}, api.ErrLimit},
		"a shorter row":                  {[][]api.Frac{ones(2), ones(2), ones(1)}, api.ErrArgument},
		"a longer row":                   {[][]api.Frac{ones(2), ones(3), ones(2)}, api.ErrArgument},
		"an empty row":                   {[][]api.Frac{ones(1), nil}, api.ErrArgument},
		"a row behind an empty one":      {[][]api.Frac{nil, ones(1)}, api.ErrArgument},
	}
	for name, c := range cases {
		expect(t, name, c.rows, c.want)
	}
	for _, a := range invalid {
		for _, rows := range [][][]api.Frac{{{a}}, {row(1), {a}}, {{a}, row(1)}, {row(1, 2), {criteria[0], a}}} {
			expect(t, "an invalid criterion", rows, api.ErrArgument)
		}
	}
}

func TestResultsOfRowsAreNewMemory(t *testing.T) {
	rows := [][]api.Frac{row(2, 1), row(3, 0), row(2, 1), row(2, 5), row(2, 1), row(3, 0)}
	groups, _ := Groups(rows)
	for i := range groups {
		_ = append(groups[i], -1)
		groups[i][0] = -1
	}
	if !equalGroups(groups, [][]int{{-1, 5}, {-1}, {-1, 2, 4}}) {
		t.Errorf("the groups share memory: %v", groups)
	}
	places := []int{1, 1, 1, 1, 1, 1}
	refined, _ := Refine(places, rows)
	refined[0] = -1
	if !slices.Equal(places, []int{1, 1, 1, 1, 1, 1}) {
		t.Errorf("the result of Refine shares memory with its argument")
	}
}
