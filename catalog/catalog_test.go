package catalog

import (
	"math/rand"
	"reflect"
	"slices"
	"strings"
	"testing"

	"salchow/api"
	"salchow/parser"
	"salchow/printer"
)

// long returns a catalog with a chain of four elements, one that ends at its second one, and one element alone.
func long(t *testing.T) api.Catalog {
	return loaded(t, "group jump limit 3 credit 0.5; group spin limit 1 credit 0; class c; class d; element 1A group jump value 1.1 class c; element 2A group jump value 3.3 class c lower 1A; element 3A group jump value 8 lower 2A; element 4A group jump value 8 class d lower 3A; element 2T group jump value 1.1 lower 1A; element CSp group spin value 0; connect c d value 0.1; connect d c value 0.2; connect d d value 0;")
}

func TestLookupChainAndLower(t *testing.T) {
	c := long(t)
	before := copiedCatalog(c)
	for code, want := range map[string][]string{
		"1A": {"1A"}, "2A": {"2A", "1A"}, "3A": {"3A", "2A", "1A"}, "4A": {"4A", "3A", "2A", "1A"}, "2T": {"2T", "1A"}, "CSp": {"CSp"}, "5A": nil, "": nil, "jump": nil, "c": nil, "1a": nil, "4A ": nil,
	} {
		down := Chain(c, code)
		if !slices.Equal(down, want) {
			t.Errorf("Chain of %q: %q; want %q", code, down, want)
		}
		for _, steps := range []int{-1 << 63, -2, -1, 0, 1, 2, 3, 4, 5, 400, 1<<63 - 1} {
			wantE, wantCode := api.ErrName, ""
			switch {
			case want == nil:
			case steps < 0:
				wantE = api.ErrArgument
			case steps >= len(want):
				wantE = api.ErrNone
			default:
				wantE, wantCode = api.OK, want[steps]
			}
			i := slices.IndexFunc(c.Elements, func(e api.Element) bool { return e.Code == wantCode })
			element := api.Element{}
			if wantE == api.OK {
				element = c.Elements[i]
			}
			if got, e := Lower(c, code, steps); got != element || e != wantE {
				t.Errorf("Lower of %q, %d: %v, %d; want %v, %d", code, steps, got, e, element, wantE)
			}
			if steps != 0 {
				continue
			}
			if got, e := Lookup(c, code); got != element || e != wantE {
				t.Errorf("Lookup of %q: %v, %d; want %v, %d", code, got, e, element, wantE)
			}
		}
	}
	if !same(c, before) {
		t.Error("the catalog has changed")
	}
	if got, e := Lookup(c, "2A"); got != (api.Element{Code: "2A", Group: "jump", Value: 3300, Class: "c", Lower: "1A"}) || e != api.OK {
		t.Errorf("Lookup: %v, %d", got, e)
	}
	if got, e := Lookup(api.Catalog{}, "2A"); got != (api.Element{}) || e != api.ErrName {
		t.Errorf("Lookup in an empty catalog: %v, %d", got, e)
	}
	Chain(c, "4A")[0] = "x"
	if !same(c, before) {
		t.Error("the chain shares memory with the catalog")
	}
}

func TestExampleOfLower(t *testing.T) {
	c := loaded(t, example)
	if down := Chain(c, "3A"); !slices.Equal(down, []string{"3A", "2A"}) {
		t.Errorf("%q", down)
	}
	if e, f := Lower(c, "3A", 1); e.Code != "2A" || f != api.OK {
		t.Errorf("%v, %d", e, f)
	}
	if e, f := Lower(c, "3A", 2); e != (api.Element{}) || f != api.ErrNone {
		t.Errorf("%v, %d", e, f)
	}
}

func TestBonus(t *testing.T) {
	c := long(t)
	for pair, want := range map[[2]string]int64{
		{"c", "d"}: 100, {"d", "c"}: 200, {"d", "d"}: 0, {"c", "c"}: 0, {"", ""}: 0, {"c", ""}: 0, {"", "d"}: 0, {"jump", "spin"}: 0, {"cd", ""}: 0, {"e", "d"}: 0,
	} {
		if got := Bonus(c, pair[0], pair[1]); got != want {
			t.Errorf("Bonus of %q: %d; want %d", pair, got, want)
		}
	}
	if Bonus(api.Catalog{}, "c", "d") != 0 {
		t.Error("Bonus of an empty catalog")
	}
	random := rand.New(rand.NewSource(64))
	for range 500 {
		c := draw(random)
		values := map[[2]string]int64{}
		for _, p := range c.Connects {
			values[[2]string{p.First, p.Second}] = p.Value
		}
		for _, first := range []string{"", "c", "d", "e_1"} {
			for _, second := range []string{"", "c", "d", "e_1"} {
				if got := Bonus(c, first, second); got != values[[2]string{first, second}] {
					t.Errorf("Bonus(%v, %q, %q): %d", c.Connects, first, second, got)
				}
			}
		}
	}
}

func TestClauses(t *testing.T) {
	c := long(t)
	const want = `group jump limit 3 credit 0.5;
group spin limit 1 credit 0;
class c;
class d;
element 1A group jump value 1.1 class c;
element CSp group spin value 0;
element 2A group jump value 3.3 class c lower 1A;
element 2T group jump value 1.1 lower 1A;
element 3A group jump value 8 lower 2A;
element 4A group jump value 8 class d lower 3A;
connect c d value 0.1;
connect d c value 0.2;
connect d d value 0;
`
	if source, e := printer.Print(Clauses(c)); source != want || e != api.OK {
		t.Errorf("%s, %d", source, e)
	}
	if list := Clauses(api.Catalog{}); len(list) != 0 {
		t.Errorf("%v", list)
	}
}

// kindOrder orders the words of entries.
var kindOrder = map[string]int{"group": 1, "class": 2, "element": 3, "connect": 4}

// depthOf returns the number of elements of the chain of an entry of an element among others.
func depthOf(list []api.Clause, c api.Clause) int {
	lower := c.Atoms[len(c.Atoms)-1].Text
	if c.Atoms[len(c.Atoms)-2].Text != "lower" {
		return 1
	}
	i := slices.IndexFunc(list, func(other api.Clause) bool { return other.Word == "element" && other.Atoms[0].Text == lower })
	return 1 + depthOf(list, list[i])
}

func TestClausesOfRandomCatalogs(t *testing.T) {
	random := rand.New(rand.NewSource(65))
	for range 3000 {
		c := draw(random)
		before := copiedCatalog(c)
		list := Clauses(c)
		if d, f := Load(list); f != (api.Fault{}) || !same(c, d) || !same(c, before) {
			t.Errorf("Load of Clauses(%v): %v, %v", c, d, f)
		}
		if e := parser.Check(list); e != api.OK || len(list) != len(c.Groups)+len(c.Classes)+len(c.Elements)+len(c.Connects) {
			t.Errorf("Clauses(%v): %v, %d", c, list, e)
		}
		for i, entry := range list {
			atOrigin := entry.At == 0 && !slices.ContainsFunc(entry.Atoms, func(a api.Token) bool { return a.At != 0 })
			if !atOrigin || entry.Block || len(entry.Kids) != 0 {
				t.Errorf("%v", entry)
			}
			if i == 0 {
				continue
			}
			last := list[i-1]
			inOrder := kindOrder[last.Word] < kindOrder[entry.Word]
			if last.Word == entry.Word {
				text := func(c api.Clause) string { return c.Atoms[0].Text + " " + c.Atoms[len(c.Atoms)/3].Text }
				inOrder = text(last) < text(entry)
			}
			if last.Word == "element" && entry.Word == "element" {
				a, b := depthOf(list, last), depthOf(list, entry)
				inOrder = a < b || a == b && last.Atoms[0].Text < entry.Atoms[0].Text
			}
			if !inOrder {
				t.Errorf("Clauses(%v): %v stands before %v", c, last, entry)
			}
		}
		// The entries share no memory with each other.
		again := copied(list)
		for i := range list {
			list[i].Atoms = append(list[i].Atoms[:len(list[i].Atoms)-1], api.Token{Kind: 99}, api.Token{Kind: 98})
			again[i].Atoms = append(again[i].Atoms[:len(again[i].Atoms)-1], api.Token{Kind: 99}, api.Token{Kind: 98})
		}
		if !reflect.DeepEqual(list, again) {
			t.Error("entries share memory")
		}
	}
}

func TestValuesAlongChains(t *testing.T) {
	random := rand.New(rand.NewSource(66))
	for range 2000 {
		c := draw(random)
		for _, element := range c.Elements {
			down := Chain(c, element.Code)
			if down[0] != element.Code || len(down) > len(c.Elements) {
				t.Errorf("Chain(%v, %s): %q", c, element.Code, down)
			}
			last := element
			for i, code := range down {
				next, e := Lookup(c, code)
				same, f := Lower(c, element.Code, i)
				if e != api.OK || f != api.OK || next != same || next.Value > last.Value || slices.Contains(down[:i], code) || i > 0 && last.Lower != code {
					t.Errorf("Chain(%v, %s): %q", c, element.Code, down)
				}
				last = next
			}
			if last.Lower != "" {
				t.Errorf("Chain(%v, %s) ends with %s", c, element.Code, last.Code)
			}
		}
	}
}

// strange returns catalogs that are not valid.
func strange() []api.Catalog {
	loop := api.Catalog{Groups: []api.Group{{Name: "a", Limit: 1}}, Elements: []api.Element{{Code: "A", Group: "a", Lower: "B"}, {Code: "B", Group: "a", Lower: "A"}}}
	alone := api.Catalog{Elements: []api.Element{{Code: "A", Lower: "A"}, {Lower: ""}, {Code: "", Lower: "A"}}}
	open := api.Catalog{Elements: []api.Element{{Code: "A", Lower: "B", Value: -5}, {Code: "A"}, {Code: "!", Value: 1 << 62}}, Classes: []string{"", "", "A"}, Connects: []api.Connect{{}, {Value: -1}}, Groups: []api.Group{{Limit: -1}}}
	wide := api.Catalog{Classes: slices.Repeat([]string{"c"}, 1000)}
	for i := range 20000 {
		wide.Elements = append(wide.Elements, api.Element{Code: strings.Repeat("A", i%100) + string(rune('A'+i/100)), Lower: "A"})
	}
	return []api.Catalog{loop, alone, open, wide}
}

func TestInvalidCatalogs(t *testing.T) {
	// The results are unspecified, but there are some.
	for _, c := range strange() {
		before := copiedCatalog(c)
		if Check(c) == api.OK {
			t.Errorf("Check of a strange catalog")
		}
		Clauses(c)
		for _, code := range []string{"", "A", "B", "!", "none"} {
			Lookup(c, code)
			Chain(c, code)
			Lower(c, code, 1)
			Lower(c, code, -1)
			Bonus(c, code, code)
			Closest(c, code)
		}
		if !same(c, before) {
			t.Error("a strange catalog has changed")
		}
	}
	odd := []api.Clause{
		{Word: "class", Atoms: []api.Token{{}}}, {Word: "class", Atoms: []api.Token{{Kind: api.TokWord}}}, {Word: "element", Atoms: []api.Token{{Kind: api.TokWord}, {Kind: 77, Text: "group"}}}, {Word: "group", Atoms: []api.Token{{Kind: api.TokWord, Text: "a"}, {Kind: api.TokWord, Text: "limit"}, {Kind: api.TokNumber, N: -1 << 63}, {Kind: api.TokWord, Text: "credit"}, {Kind: api.TokNumber, N: -1}}}, {Word: "connect", Kids: []api.Clause{{}}},
	}
	for _, c := range odd {
		if d, f := Load([]api.Clause{c}); f.Code == api.OK || !same(d, api.Catalog{}) {
			t.Errorf("%v: %v, %v", c, d, f)
		}
	}
}
