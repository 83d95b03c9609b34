package connection

import (
	"math"
	"math/rand"
	"reflect"
	"slices"
	"testing"

	"salchow/api"
)

// example returns the catalog of the examples, with an element without a class.
func example() api.Catalog {
	return api.Catalog{
		Classes:  []string{"jump", "spin"},
		Elements: []api.Element{{Code: "A", Class: "jump"}, {Code: "B", Class: "jump"}, {Code: "S", Class: "spin"}, {Code: "T"}},
		Connects: []api.Connect{{First: "jump", Second: "jump", Value: 500}, {First: "spin", Second: "jump", Value: 200}},
	}
}

// line returns the items of a line of codes of one letter and signs of joining; a star takes the credit of the item before it.
func line(c api.Catalog, text string) []api.Recognized {
	var items []api.Recognized
	for _, x := range text {
		last := len(items) - 1
		switch x {
		case '+':
			items[last].Joined = true
		case '*':
			items[last] = api.Recognized{}
		default:
			i := slices.IndexFunc(c.Elements, func(e api.Element) bool { return e.Code == string(x) })
			items = append(items, api.Recognized{Credited: true, Code: string(x), Class: c.Elements[i].Class})
		}
	}
	return items
}

func TestValue(t *testing.T) {
	c := example()
	c.Connects = append(c.Connects, api.Connect{First: "jump", Second: "jump", Value: 700}, api.Connect{First: "", Second: "jump", Value: 5}, api.Connect{First: "jump", Second: "spin"}, api.Connect{First: "spin", Second: "spin", Value: -3})
	for _, x := range []struct {
		first, second string
		want          int64
		ok            bool
	}{
		{"jump", "jump", 500, true}, {"spin", "jump", 200, true}, {"jump", "spin", 0, true}, {"spin", "spin", -3, true}, {"", "jump", 5, true},
		{"jump", "", 0, false}, {"", "", 0, false}, {"Jump", "jump", 0, false}, {"jump ", "jump", 0, false}, {"jumpjump", "", 0, false}, {"spin", "jum", 0, false},
	} {
		if value, ok := Value(c, x.first, x.second); value != x.want || ok != x.ok {
			t.Errorf("Value(%q, %q): %d, %v", x.first, x.second, value, ok)
		}
	}
	if value, ok := Value(api.Catalog{}, "", ""); value != 0 || ok {
		t.Errorf("Value without connects: %d, %v", value, ok)
	}
}

func TestLines(t *testing.T) {
	c := example()
	c.Connects = append(c.Connects, api.Connect{First: "spin", Second: "spin"}, api.Connect{First: "spin", Second: "jump", Value: 900})
	for _, x := range []struct {
		text   string
		pairs  []Pair
		chains [][2]int
	}{
		{"A+B+S", []Pair{{0, 500}}, [][2]int{{0, 2}}},
		{"S+A+B", []Pair{{0, 200}, {1, 500}}, [][2]int{{0, 2}}},
		{"", nil, nil},
		{"A", nil, nil},
		{"A+", nil, nil},
		{"AB", nil, nil},
		{"A+B", []Pair{{0, 500}}, [][2]int{{0, 1}}},
		{"A+B+", []Pair{{0, 500}}, [][2]int{{0, 1}}},
		{"AB+A", []Pair{{1, 500}}, [][2]int{{1, 2}}},
		{"A+BA+B", []Pair{{0, 500}, {2, 500}}, [][2]int{{0, 1}, {2, 3}}},
		{"A+BS+SA+B", []Pair{{0, 500}, {2, 0}, {4, 500}}, [][2]int{{0, 1}, {2, 3}, {4, 5}}},
		{"A+T+A", nil, [][2]int{{0, 2}}},
		{"A+S", nil, [][2]int{{0, 1}}},
		{"A+A*+A+A", []Pair{{2, 500}}, [][2]int{{2, 3}}},
		{"A+A+A*+A+A", []Pair{{0, 500}, {3, 500}}, [][2]int{{0, 1}, {3, 4}}},
		{"A*+A", nil, nil},
		{"A+A*", nil, nil},
		{"A*+A*", nil, nil},
		{"A+A*AA", nil, nil},
		{"A+A+A+A+A", []Pair{{0, 500}, {1, 500}, {2, 500}, {3, 500}}, [][2]int{{0, 4}}},
		{"S+S+A", []Pair{{0, 0}, {1, 200}}, [][2]int{{0, 2}}},
	} {
		items := line(c, x.text)
		before := slices.Clone(items)
		if got := Pairs(c, items); !slices.Equal(got, x.pairs) {
			t.Errorf("Pairs(%s): %v; want %v", x.text, got, x.pairs)
		}
		if got := Chains(items); !slices.Equal(got, x.chains) {
			t.Errorf("Chains(%s): %v; want %v", x.text, got, x.chains)
		}
		if !slices.Equal(items, before) {
			t.Errorf("%s has changed", x.text)
		}
	}
}

func TestElementsWithoutClasses(t *testing.T) {
	c := example()
	c.Connects = []api.Connect{{First: "", Second: "", Value: 1}, {First: "jump", Second: "", Value: 2}, {First: "", Second: "jump", Value: 4}, {First: "jump", Second: "jump", Value: 8}}
	items := line(c, "T+T+A+T+A+A")
	if got := Pairs(c, items); !slices.Equal(got, []Pair{{4, 8}}) {
		t.Errorf("Pairs: %v", got)
	}
	if sum, cut := Sum(c, api.Segment{Connections: 100}, items); sum != 8 || cut != 0 {
		t.Errorf("Sum: %d, %d", sum, cut)
	}
	if lost, e := Break(c, items, 3); lost != 0 || e != api.OK {
		t.Errorf("Break: %d, %d", lost, e)
	}
	if order, bonus, e := Best(c, []string{"T", "T", "A", "A"}); bonus != 8 || e != api.OK || !slices.Equal(order, []string{"A", "A", "T", "T"}) {
		t.Errorf("Best: %v, %d, %d", order, bonus, e)
	}
}

func TestSum(t *testing.T) {
	c := example()
	items := line(c, "S+A+B")
	for _, x := range []struct{ most, sum, cut int64 }{
		{600, 600, 100}, {699, 699, 1}, {700, 700, 0}, {701, 700, 0}, {0, 0, 700}, {1, 1, 699}, {api.MaxMilli, 700, 0}, {math.MaxInt64, 700, 0}, {-1, -1, 701},
	} {
		if sum, cut := Sum(c, api.Segment{Connections: x.most}, items); sum != x.sum || cut != x.cut {
			t.Errorf("Sum with %d: %d, %d", x.most, sum, cut)
		}
	}
	if sum, cut := Sum(c, api.Segment{Connections: 600}, nil); sum != 0 || cut != 0 {
		t.Errorf("Sum without items: %d, %d", sum, cut)
	}
	if sum, cut := Sum(c, api.Segment{Connections: 600}, line(c, "SAB")); sum != 0 || cut != 0 {
		t.Errorf("Sum without joined items: %d, %d", sum, cut)
	}
	c.Connects[1].Value = -300
	if sum, cut := Sum(c, api.Segment{Connections: 100}, items); sum != 100 || cut != 100 {
		t.Errorf("Sum with a negative value: %d, %d", sum, cut)
	}
}

func TestBreak(t *testing.T) {
	c := example()
	for _, x := range []struct {
		text string
		want []int64
	}{
		{"S+A+B", []int64{200, 700, 500}},
		{"A+B+S", []int64{500, 500, 0}},
		{"A+A+A+A", []int64{500, 1000, 1000, 500}},
		{"A+A*+A+A", []int64{0, 0, 500, 500}},
		{"SAB", []int64{0, 0, 0}},
		{"", nil},
	} {
		items := line(c, x.text)
		for i, want := range x.want {
			if lost, e := Break(c, items, i); lost != want || e != api.OK {
				t.Errorf("Break(%s, %d): %d, %d; want %d", x.text, i, lost, e, want)
			}
		}
		for _, i := range []int{-1, math.MinInt, len(items), len(items) + 1, math.MaxInt} {
			if lost, e := Break(c, items, i); lost != 0 || e != api.ErrArgument {
				t.Errorf("Break(%s, %d): %d, %d", x.text, i, lost, e)
			}
		}
	}
}

// randomCatalog returns a catalog with a few classes and connects, some of which occur twice.
func randomCatalog(random *rand.Rand) api.Catalog {
	classes := []string{"", "a", "b", "c"}
	class := func() string { return classes[random.Intn(4)] }
	var c api.Catalog
	for range random.Intn(12) {
		c.Connects = append(c.Connects, api.Connect{First: class(), Second: class(), Value: int64(random.Intn(6))})
	}
	for code := 'A'; code < 'A'+8; code++ {
		c.Elements = append(c.Elements, api.Element{Code: string(code), Class: class()})
	}
	c.Elements = append(c.Elements, api.Element{Code: "A", Class: "a"}, api.Element{Code: "B"})
	return c
}

// randomLine returns a recognized line.
func randomLine(random *rand.Rand, c api.Catalog) []api.Recognized {
	var items []api.Recognized
	for range random.Intn(10) {
		x := c.Elements[random.Intn(8)]
		item := api.Recognized{Credited: true, Code: x.Code, Class: x.Class, Joined: random.Intn(4) > 0}
		if random.Intn(5) == 0 {
			item = api.Recognized{Joined: item.Joined}
		}
		items = append(items, item)
	}
	return items
}

// pays returns the bonus of the pair at an index, and whether it is paid, by the definition.
func pays(c api.Catalog, items []api.Recognized, i int) (int64, bool) {
	if i+1 >= len(items) || !items[i].Joined || !items[i].Credited || !items[i+1].Credited || items[i].Class == "" || items[i+1].Class == "" {
		return 0, false
	}
	return Value(c, items[i].Class, items[i+1].Class)
}

// isSequence reports whether the items from one index to another one are at least two that are credited and connected.
func isSequence(items []api.Recognized, first, last int) bool {
	for i := first; i <= last; i++ {
		if i < 0 || i >= len(items) || !items[i].Credited || i < last && !items[i].Joined {
			return false
		}
	}
	return last > first
}

func TestRandomLines(t *testing.T) {
	random := rand.New(rand.NewSource(210))
	for range 5000 {
		c := randomCatalog(random)
		items := randomLine(random, c)
		s := api.Segment{Connections: int64(random.Intn(20))}
		var pairs []Pair
		var chains [][2]int
		var total int64
		for i := range items {
			if value, ok := pays(c, items, i); ok {
				pairs = append(pairs, Pair{i, value})
				total += value
			}
			for j := range items {
				if isSequence(items, i, j) && !isSequence(items, i-1, j) && !isSequence(items, i, j+1) {
					chains = append(chains, [2]int{i, j})
				}
			}
		}
		catalogBefore, before := copied(c), slices.Clone(items)
		if got := Pairs(c, items); !slices.Equal(got, pairs) {
			t.Errorf("Pairs(%v, %v): %v; want %v", c.Connects, items, got, pairs)
		}
		if got := Chains(items); !slices.Equal(got, chains) {
			t.Errorf("Chains(%v): %v; want %v", items, got, chains)
		}
		if sum, cut := Sum(c, s, items); sum != min(total, s.Connections) || sum+cut != total {
			t.Errorf("Sum(%v, %d, %v): %d, %d; want %d in all", c.Connects, s.Connections, items, sum, cut, total)
		}
		for i := range items {
			changed := slices.Clone(items)
			changed[i].Credited = false
			rest, _ := Sum(c, api.Segment{Connections: math.MaxInt64}, changed)
			if lost, e := Break(c, items, i); lost != total-rest || e != api.OK {
				t.Errorf("Break(%v, %v, %d): %d, %d; want %d", c.Connects, items, i, lost, e, total-rest)
			}
		}
		if !reflect.DeepEqual(c, catalogBefore) || !slices.Equal(items, before) {
			t.Error("the arguments have changed")
		}
	}
}

// copied returns a copy of a catalog that shares no memory with it.
func copied(c api.Catalog) api.Catalog {
	return api.Catalog{Groups: slices.Clone(c.Groups), Classes: slices.Clone(c.Classes), Elements: slices.Clone(c.Elements), Connects: slices.Clone(c.Connects)}
}

func TestConsequences(t *testing.T) {
	random := rand.New(rand.NewSource(211))
	for range 3000 {
		c := randomCatalog(random)
		items := randomLine(random, c)
		chains := Chains(items)
		for _, p := range Pairs(c, items) {
			around := 0
			for _, x := range chains {
				if x[0] <= p.First && p.First+1 <= x[1] {
					around++
				}
			}
			if around != 1 {
				t.Errorf("the pair at %d of %v lies in %d chains", p.First, items, around)
			}
		}
		checkExchange(t, c, items)
		for i := range items {
			items[i].Joined = false
		}
		if pairs := Pairs(c, items); len(pairs) != 0 || len(Chains(items)) != 0 {
			t.Errorf("bonuses of %v, of which none is joined: %v", items, pairs)
		}
	}
}

// checkExchange checks that parts of a line that are not joined have the same bonuses one after the other in both orders.
func checkExchange(t *testing.T, c api.Catalog, items []api.Recognized) {
	t.Helper()
	if len(items) == 0 {
		return
	}
	items = slices.Clone(items)
	items[len(items)-1].Joined = false
	for i := range items {
		if items[i].Joined {
			continue
		}
		first, second := items[:i+1], items[i+1:]
		moved := func(items []api.Recognized, by int) []Pair {
			pairs := Pairs(c, items)
			for i := range pairs {
				pairs[i].First += by
			}
			return pairs
		}
		if got, want := Pairs(c, items), slices.Concat(Pairs(c, first), moved(second, len(first))); !slices.Equal(got, want) {
			t.Errorf("Pairs(%v): %v; want %v", items, got, want)
		}
		if got, want := Pairs(c, slices.Concat(second, first)), slices.Concat(Pairs(c, second), moved(first, len(second))); !slices.Equal(got, want) {
			t.Errorf("Pairs of %v and %v: %v; want %v", second, first, got, want)
		}
	}
}

func TestLargeInputs(t *testing.T) {
	c := example()
	c.Connects = nil
	for i := range 100000 {
		c.Connects = append(c.Connects, api.Connect{First: "jump", Second: string(rune(i)), Value: math.MaxInt64})
	}
	c.Connects = append(c.Connects, api.Connect{First: "jump", Second: "jump", Value: math.MaxInt64}, api.Connect{First: "spin", Second: "jump", Value: math.MinInt64})
	items := slices.Repeat(line(c, "S+A+B+T+"), 50000)
	if pairs := Pairs(c, items); len(pairs) != 100000 || pairs[99999] != (Pair{199997, math.MaxInt64}) {
		t.Errorf("%d pairs", len(pairs))
	}
	if chains := Chains(items); !slices.Equal(chains, [][2]int{{0, 199999}}) {
		t.Errorf("chains: %v", chains)
	}
	Sum(c, api.Segment{Connections: math.MinInt64}, items)
	Break(c, items, 100000)
	Best(c, []string{"A", "A", "A", "A", "S", "S", "S", "S"})
}

func TestResultsShareNoMemory(t *testing.T) {
	c := example()
	items := line(c, "A+B+A")
	pairs, chains := Pairs(c, items), Chains(items)
	pairs[0], chains[0] = Pair{}, [2]int{}
	if !slices.Equal(Pairs(c, items), []Pair{{0, 500}, {1, 500}}) || !slices.Equal(Chains(items), [][2]int{{0, 2}}) {
		t.Error("a result shares memory with another one")
	}
}
