package recognize

import (
	"math"
	"math/rand"
	"reflect"
	"slices"
	"strings"
	"testing"

	"salchow/api"
	"salchow/catalog"
	"salchow/notation"
	"salchow/parser"
)

// loaded returns the catalog of a source.
func loaded(t *testing.T, source string) api.Catalog {
	t.Helper()
	list, f := parser.Parse(source)
	if f != (api.Fault{}) {
		t.Fatalf("Parse: %v", f)
	}
	c, f := catalog.Load(list)
	if f != (api.Fault{}) {
		t.Fatalf("Load: %v", f)
	}
	return c
}

// example returns the catalog of the examples.
func example(t *testing.T) api.Catalog {
	return loaded(t, "group jump limit 3 credit 0; class c; element 2A group jump value 3.3 class c; element 3A group jump value 8 lower 2A;")
}

// line returns the items of a line.
func line(t *testing.T, text string) []api.Item {
	t.Helper()
	items, f := notation.Parse(text)
	if f != (api.Fault{}) {
		t.Fatalf("Parse(%q): %v", text, f)
	}
	return items
}

// copied returns a copy of a catalog that shares no memory with it.
func copied(c api.Catalog) api.Catalog {
	return api.Catalog{Groups: slices.Clone(c.Groups), Classes: slices.Clone(c.Classes), Elements: slices.Clone(c.Elements), Connects: slices.Clone(c.Connects)}
}

func TestReasons(t *testing.T) {
	if Credited != 0 || Void != 1 || Unknown != 2 || Below != 3 {
		t.Error("the values of the reasons")
	}
}

func TestItemsOfExample(t *testing.T) {
	c := example(t)
	axel := api.Recognized{Credited: true, Code: "2A", Group: "jump", Class: "c", Value: 3300}
	triple := api.Recognized{Credited: true, Code: "3A", Group: "jump", Value: 8000}
	for _, x := range []struct {
		item   api.Item
		reason int
		want   api.Recognized
		full   api.Recognized
	}{
		{api.Item{Code: "3A"}, Credited, triple, triple},
		{api.Item{Code: "3A", Down: 1}, Credited, axel, triple},
		{api.Item{Code: "3A", Down: 2}, Below, api.Recognized{}, triple},
		{api.Item{Code: "3A", Down: 2, Review: true}, Below, api.Recognized{}, triple},
		{api.Item{Code: "3A", Down: -1}, Below, api.Recognized{}, triple},
		{api.Item{Code: "3A", Down: math.MaxInt}, Below, api.Recognized{}, triple},
		{api.Item{Code: "3A", Down: math.MinInt}, Below, api.Recognized{}, triple},
		{api.Item{Code: "3A", Void: true}, Void, api.Recognized{}, triple},
		{api.Item{Code: "3A", Void: true, Review: true}, Void, api.Recognized{}, triple},
		{api.Item{Code: "3A", Void: true, Down: 2}, Void, api.Recognized{}, triple},
		{api.Item{Code: "4A"}, Unknown, api.Recognized{}, api.Recognized{}},
		{api.Item{Code: "4A", Down: 1}, Unknown, api.Recognized{}, api.Recognized{}},
		{api.Item{Code: "4A", Down: -1, Review: true}, Unknown, api.Recognized{}, api.Recognized{}},
		{api.Item{Code: "4A", Void: true}, Void, api.Recognized{}, api.Recognized{}},
		{api.Item{}, Unknown, api.Recognized{}, api.Recognized{}},
		{api.Item{Code: "2A"}, Credited, axel, axel},
		{api.Item{Code: "2A", Down: 1}, Below, api.Recognized{}, axel},
		{api.Item{Code: "2a"}, Unknown, api.Recognized{}, api.Recognized{}},
		{api.Item{Code: "jump"}, Unknown, api.Recognized{}, api.Recognized{}},
	} {
		for _, joined := range []bool{false, true} {
			x.item.Joined, x.want.Joined, x.full.Joined = joined, joined, joined
			x.want.Review = x.item.Review && x.reason == Credited
			if reason, got, full := Reason(c, x.item), Item(c, x.item), Full(c, x.item); reason != x.reason || got != x.want || full != x.full {
				t.Errorf("%v: %d, %v, %v", x.item, reason, got, full)
			}
		}
	}
	if got := Item(c, api.Item{Code: "3A", Down: 1, Review: true, Joined: true}); got != (api.Recognized{Credited: true, Code: "2A", Group: "jump", Class: "c", Value: 3300, Review: true, Joined: true}) {
		t.Errorf("all fields: %v", got)
	}
}

func TestLineOfExample(t *testing.T) {
	c := example(t)
	items := line(t, "3A< 2A?")
	axel := api.Recognized{Credited: true, Code: "2A", Group: "jump", Class: "c", Value: 3300}
	review := axel
	review.Review = true
	if got, e := Line(c, items); e != api.OK || !slices.Equal(got, []api.Recognized{axel, review}) {
		t.Errorf("Line: %v, %d", got, e)
	}
	if lost, e := Lost(c, items); lost != 4700 || e != api.OK {
		t.Errorf("Lost: %d, %d", lost, e)
	}
	if indices, sum, e := Reviewed(c, items); !slices.Equal(indices, []int{1}) || sum != 3300 || e != api.OK {
		t.Errorf("Reviewed: %v, %d, %d", indices, sum, e)
	}
	settled, e := Settle(items, 1, 1, false)
	if text, f := notation.Print(settled); text != "3A< 2A<" || e != api.OK || f != api.OK || Reason(c, settled[1]) != Below {
		t.Errorf("Settle with one step: %v, %d", settled, e)
	}
	settled, e = Settle(items, 1, 0, false)
	if text, f := notation.Print(settled); text != "3A< 2A" || e != api.OK || f != api.OK || Item(c, settled[1]) != axel {
		t.Errorf("Settle with no steps: %v, %d", settled, e)
	}
	if got, e := Line(c, line(t, "3A< 2A")); e != api.OK || !reflect.DeepEqual(Repeats(got), [][]int{{0, 1}}) {
		t.Errorf("Repeats: %v", Repeats(got))
	}
}

func TestLinesWithoutItems(t *testing.T) {
	for _, c := range []api.Catalog{{}, example(t)} {
		if got, e := Line(c, nil); len(got) != 0 || e != api.OK {
			t.Errorf("Line: %v, %d", got, e)
		}
		if lost, e := Lost(c, nil); lost != 0 || e != api.OK {
			t.Errorf("Lost: %d, %d", lost, e)
		}
		if indices, sum, e := Reviewed(c, nil); len(indices) != 0 || sum != 0 || e != api.OK {
			t.Errorf("Reviewed: %v, %d, %d", indices, sum, e)
		}
	}
	if settled, e := Settle(nil, 0, 0, false); settled != nil || e != api.ErrArgument {
		t.Errorf("Settle: %v, %d", settled, e)
	}
	if repeats := Repeats(nil); len(repeats) != 0 {
		t.Errorf("Repeats: %v", repeats)
	}
}

// faulty returns items that are not those of a line, by the error of notation.Check.
func faulty() map[api.Errno][]api.Item {
	review := api.Item{Code: "3A", Review: true}
	return map[api.Errno][]api.Item{
		api.ErrLimit: slices.Repeat([]api.Item{review}, api.MaxItems+1),
		api.ErrName:  {review, {Code: "33"}},
		api.ErrRange: {review, {Code: "3A", Down: 10}},
		api.ErrOrder: {review, {Code: "3A", Joined: true}},
	}
}

func TestErrorsOfLines(t *testing.T) {
	c := example(t)
	for want, items := range faulty() {
		if got, e := Line(c, items); got != nil || e != want {
			t.Errorf("Line: %v, %d; want %d", got, e, want)
		}
		if lost, e := Lost(c, items); lost != 0 || e != want {
			t.Errorf("Lost: %d, %d; want %d", lost, e, want)
		}
		if indices, sum, e := Reviewed(c, items); indices != nil || sum != 0 || e != want {
			t.Errorf("Reviewed: %v, %d, %d; want %d", indices, sum, e, want)
		}
		// The items come before the index, the steps and the state of the item.
		for _, index := range []int{-1, 0, 1, len(items)} {
			if settled, e := Settle(items, index, -1, false); settled != nil || e != want {
				t.Errorf("Settle: %v, %d; want %d", settled, e, want)
			}
		}
	}
}

func TestRepeats(t *testing.T) {
	credited := func(codes ...string) []api.Recognized {
		var items []api.Recognized
		for _, code := range codes {
			items = append(items, api.Recognized{Credited: true, Code: code, Joined: code == "3A"})
		}
		return items
	}
	mixed := credited("b", "a", "b", "B", "a", "c", "b", "3A", "", "3A", "")
	for _, x := range []struct {
		items []api.Recognized
		want  [][]int
	}{
		{credited("2A", "2A"), [][]int{{0, 1}}},
		{credited("2A", "3A"), nil},
		{credited("2A"), nil},
		{mixed, [][]int{{8, 10}, {7, 9}, {1, 4}, {0, 2, 6}}},
		{[]api.Recognized{{Code: "2A"}, {Code: "2A"}, {}, {}}, nil},
		{append(credited("2A", "2A"), api.Recognized{Code: "2A"}, api.Recognized{}), [][]int{{0, 1}}},
		{append([]api.Recognized{{Code: "2A"}}, credited("2A", "2A")...), [][]int{{1, 2}}},
		// The code alone counts, whatever the other fields are.
		{[]api.Recognized{{Credited: true, Code: "x", Group: "g", Value: 1}, {Credited: true, Code: "x", Group: "h", Value: -1, Review: true}}, [][]int{{0, 1}}},
	} {
		before := slices.Clone(x.items)
		got := Repeats(x.items)
		if len(got) != len(x.want) || len(got) > 0 && !reflect.DeepEqual(got, x.want) || !slices.Equal(x.items, before) {
			t.Errorf("Repeats(%v): %v; want %v", x.items, got, x.want)
		}
	}
	got := Repeats(mixed)
	for i := range got {
		got[i] = append(got[i], -1)
	}
	if !reflect.DeepEqual(got, [][]int{{8, 10, -1}, {7, 9, -1}, {1, 4, -1}, {0, 2, 6, -1}}) {
		t.Errorf("lists share memory: %v", got)
	}
}

func TestRepeatsOfRandomItems(t *testing.T) {
	random := rand.New(rand.NewSource(200))
	for range 2000 {
		var items []api.Recognized
		for range random.Intn(40) {
			items = append(items, api.Recognized{Credited: random.Intn(4) > 0, Code: string(rune('A' + random.Intn(20)))})
		}
		var want [][]int
		for code := 'A'; code < 'A'+20; code++ {
			var indices []int
			for i, x := range items {
				if x.Credited && x.Code == string(code) {
					indices = append(indices, i)
				}
			}
			if len(indices) >= 2 {
				want = append(want, indices)
			}
		}
		if got := Repeats(items); !slices.EqualFunc(got, want, slices.Equal[[]int]) {
			t.Errorf("Repeats(%v): %v; want %v", items, got, want)
		}
	}
}

func TestInvalidCatalogs(t *testing.T) {
	element := func(code, lower string) api.Element {
		return api.Element{Code: code, Group: "jump", Value: math.MaxInt64, Lower: lower}
	}
	items := line(t, "3A 3A? 3A<<<<<<<<< 2A<? 2A+1A<*+A")
	for _, elements := range [][]api.Element{
		nil,
		{element("3A", "3A")},
		{element("2A", "3A"), element("3A", "2A")},
		{element("3A", "2A")},
		{element("3A", "2A"), element("2A", "1A"), element("3A", "1A"), element("1A", ""), element("3A", "3A")},
		{element("", ""), element("", "3A"), element("3A", "")},
		slices.Repeat([]api.Element{element("3A", "2A"), element("2A", "3A")}, 1000),
	} {
		c := api.Catalog{Elements: elements}
		before := copied(c)
		for _, down := range []int{math.MinInt, -1, 0, 1, 2, 3, 1000, math.MaxInt} {
			for _, code := range []string{"", "1A", "2A", "3A", strings.Repeat("3A", 1000)} {
				x := api.Item{Code: code, Down: down}
				Reason(c, x)
				Item(c, x)
				Full(c, x)
			}
		}
		Line(c, items)
		Lost(c, items)
		Reviewed(c, items)
		if !reflect.DeepEqual(c, before) {
			t.Error("the catalog has changed")
		}
	}
}
