package recognize

import (
	"math"
	"math/rand"
	"reflect"
	"slices"
	"strconv"
	"strings"
	"testing"

	"salchow/api"
	"salchow/catalog"
	"salchow/notation"
)

// randomCatalog returns a valid catalog in which about half of the elements have a lower one.
func randomCatalog(t *testing.T, random *rand.Rand) api.Catalog {
	t.Helper()
	c := api.Catalog{Groups: []api.Group{{Name: "jump", Limit: 3, Credit: 500}, {Name: "spin", Limit: 1}}, Classes: []string{"c", "d"}}
	for i := range random.Intn(16) {
		x := api.Element{
			Code:  string(rune('A'+random.Intn(26))) + strconv.Itoa(i),
			Group: []string{"jump", "spin"}[random.Intn(2)],
			Class: []string{"", "c", "d"}[random.Intn(3)],
			Value: int64(random.Intn(20)) * 100,
		}
		if len(c.Elements) > 0 && random.Intn(4) > 0 {
			lower := c.Elements[len(c.Elements)-1-random.Intn(min(3, len(c.Elements)))]
			x.Lower, x.Value = lower.Code, lower.Value+int64(random.Intn(4))*100
		}
		c.Elements = append(c.Elements, x)
	}
	slices.SortFunc(c.Elements, func(a, b api.Element) int { return strings.Compare(a.Code, b.Code) })
	if e := catalog.Check(c); e != api.OK {
		t.Fatalf("Check(%v): %d", c, e)
	}
	return c
}

// randomItem returns an item of a line, mostly of an element of a catalog.
func randomItem(random *rand.Rand, c api.Catalog) api.Item {
	x := api.Item{Code: "Q", Down: max(0, random.Intn(6)-2), Review: random.Intn(2) == 0, Void: random.Intn(6) == 0, Joined: random.Intn(2) == 0}
	if len(c.Elements) > 0 && random.Intn(8) > 0 {
		x.Code = c.Elements[random.Intn(len(c.Elements))].Code
	}
	if random.Intn(10) == 0 {
		x.Down = random.Intn(notation.MaxDown + 1)
	}
	return x
}

// randomItems returns the items of a line.
func randomItems(random *rand.Rand, c api.Catalog) []api.Item {
	var items []api.Item
	for range random.Intn(api.MaxItems + 1) {
		items = append(items, randomItem(random, c))
	}
	if len(items) > 0 {
		items[len(items)-1].Joined = false
	}
	return items
}

// chainOf returns the elements of the lower chain of a code.
func chainOf(c api.Catalog, code string) []api.Element {
	for _, x := range c.Elements {
		if x.Code == code {
			return append([]api.Element{x}, chainOf(c, x.Lower)...)
		}
	}
	return nil
}

// expected returns the reason and the worth of an item according to the definitions.
func expected(c api.Catalog, x api.Item) (int, api.Recognized) {
	chain := chainOf(c, x.Code)
	switch {
	case x.Void:
		return Void, api.Recognized{Joined: x.Joined}
	case len(chain) == 0:
		return Unknown, api.Recognized{Joined: x.Joined}
	case x.Down < 0 || x.Down >= len(chain):
		return Below, api.Recognized{Joined: x.Joined}
	}
	element := chain[x.Down]
	return Credited, api.Recognized{Credited: true, Code: element.Code, Group: element.Group, Class: element.Class, Value: element.Value, Review: x.Review, Joined: x.Joined}
}

// bare returns an item without marks.
func bare(x api.Item) api.Item {
	x.Down, x.Review, x.Void = 0, false, false
	return x
}

func TestRandomItems(t *testing.T) {
	random := rand.New(rand.NewSource(201))
	count := map[int]int{}
	for range 500 {
		c := randomCatalog(t, random)
		for range 50 {
			x := randomItem(random, c)
			if random.Intn(10) == 0 {
				x.Down = []int{-1, -2, 10, 100, math.MaxInt, math.MinInt}[random.Intn(6)]
			}
			reason, want := expected(c, x)
			count[reason]++
			if got := Reason(c, x); got != reason {
				t.Errorf("Reason(%v, %v): %d; want %d", c.Elements, x, got, reason)
			}
			if got := Item(c, x); got != want {
				t.Errorf("Item(%v, %v): %v; want %v", c.Elements, x, got, want)
			}
			_, want = expected(c, bare(x))
			if got := Full(c, x); got != want || got.Value < Item(c, x).Value {
				t.Errorf("Full(%v, %v): %v; want %v", c.Elements, x, got, want)
			}
		}
	}
	if min(count[Credited], count[Void], count[Unknown], count[Below]) < 1000 {
		t.Errorf("reasons: %v", count)
	}
}

func TestRandomLines(t *testing.T) {
	random := rand.New(rand.NewSource(202))
	for range 2000 {
		c := randomCatalog(t, random)
		items := randomItems(random, c)
		catalogBefore, before := copied(c), slices.Clone(items)
		var want []api.Recognized
		var wantIndices []int
		var wantSum, wantLost int64
		for i, x := range items {
			reason, worth := expected(c, x)
			_, full := expected(c, bare(x))
			want = append(want, worth)
			wantLost += full.Value - worth.Value
			if reason == Credited && x.Review {
				wantIndices = append(wantIndices, i)
				wantSum += worth.Value
			}
		}
		if got, e := Line(c, items); e != api.OK || !slices.Equal(got, want) {
			t.Errorf("Line(%v, %v): %v, %d; want %v", c.Elements, items, got, e, want)
		}
		if lost, e := Lost(c, items); e != api.OK || lost != wantLost || lost < 0 {
			t.Errorf("Lost(%v, %v): %d, %d; want %d", c.Elements, items, lost, e, wantLost)
		}
		if indices, sum, e := Reviewed(c, items); e != api.OK || !slices.Equal(indices, wantIndices) || sum != wantSum {
			t.Errorf("Reviewed(%v, %v): %v, %d, %d; want %v, %d", c.Elements, items, indices, sum, e, wantIndices, wantSum)
		}
		if !reflect.DeepEqual(c, catalogBefore) || !slices.Equal(items, before) {
			t.Error("the arguments have changed")
		}
	}
}
