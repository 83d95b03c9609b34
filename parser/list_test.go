package parser

import (
	"math/rand"
	"reflect"
	"slices"
	"strings"
	"testing"

	"salchow/api"
)

// randomAtoms returns up to three atoms.
func randomAtoms(random *rand.Rand) []api.Token {
	all := []api.Token{word("a"), word("3Lz"), number(0), number(2500), title("Anna Bell"), title("{"), symbol("("), symbol("="), symbol("/")}
	var atoms []api.Token
	for range random.Intn(4) {
		atoms = append(atoms, at(random.Intn(3)-1, all[random.Intn(len(all))]))
	}
	return atoms
}

// randomList returns a possible list of entries of at most the given depth.
func randomList(random *rand.Rand, depth int) []api.Clause {
	var list []api.Clause
	for range random.Intn(4) {
		c := api.Clause{Word: []string{"a", "b", "group"}[random.Intn(3)], Atoms: randomAtoms(random), At: random.Intn(3) - 1}
		if depth > 0 && random.Intn(2) == 0 {
			c.Block, c.Kids = true, randomList(random, depth-1)
		}
		list = append(list, c)
	}
	return list
}

// nested returns an entry without blocks within so many ones.
func nested(blocks int) []api.Clause {
	list := []api.Clause{{Word: "a"}}
	for range blocks {
		list = []api.Clause{{Word: "a", Block: true, Kids: list}}
	}
	return list
}

// copied returns a copy of a list that shares no memory with it.
func copied(list []api.Clause) []api.Clause {
	var all []api.Clause
	for _, c := range list {
		c.Atoms, c.Kids = append([]api.Token(nil), c.Atoms...), copied(c.Kids)
		all = append(all, c)
	}
	return all
}

// moved returns a copy of a list with other offsets, and empty slices instead of nil ones.
func moved(list []api.Clause) []api.Clause {
	all := []api.Clause{}
	for _, c := range list {
		atoms := []api.Token{}
		for _, token := range c.Atoms {
			atoms = append(atoms, at(token.At+7, token))
		}
		c.Atoms, c.Kids, c.At = atoms, moved(c.Kids), c.At-9
		all = append(all, c)
	}
	return all
}

// changes are changes of a part of an entry with two atoms and a kid.
var changes = map[string]func(c *api.Clause){
	"another word":              func(c *api.Clause) { c.Word += "x" },
	"no word":                   func(c *api.Clause) { c.Word = "" },
	"another block":             func(c *api.Clause) { c.Block = !c.Block },
	"another kind of an atom":   func(c *api.Clause) { c.Atoms[0].Kind++ },
	"another text of an atom":   func(c *api.Clause) { c.Atoms[1].Text += "x" },
	"another number of an atom": func(c *api.Clause) { c.Atoms[1].N++ },
	"one atom less":             func(c *api.Clause) { c.Atoms = c.Atoms[:1] },
	"one atom more":             func(c *api.Clause) { c.Atoms = append(c.Atoms, word("x")) },
	"other order of the atoms":  func(c *api.Clause) { slices.Reverse(c.Atoms) },
	"no kids":                   func(c *api.Clause) { c.Kids = nil },
	"one kid more":              func(c *api.Clause) { c.Kids = append(c.Kids, c.Kids[0]) },
	"another kid":               func(c *api.Clause) { c.Kids[0].Word = "x" },
	"an atom of a kid":          func(c *api.Clause) { c.Kids[0].Atoms = []api.Token{number(1)} },
	"a block of a kid":          func(c *api.Clause) { c.Kids[0].Block = true },
}

func TestSame(t *testing.T) {
	for _, block := range []bool{true, false} {
		list := []api.Clause{
			{Word: "a", Atoms: []api.Token{word("b"), number(1000)}, Block: block, Kids: []api.Clause{{Word: "c"}}},
			{Word: "d"},
		}
		if !Same(list, list) || !Same(list, copied(list)) || !Same(list, moved(list)) || !Same(moved(list), list) {
			t.Errorf("%v is not the same as itself", list)
		}
		for name, change := range changes {
			other := copied(list)
			change(&other[0])
			within := []api.Clause{{Word: "a", Block: block, Kids: other}}
			if Same(list, other) || Same(other, list) || Same(within, []api.Clause{{Word: "a", Block: block, Kids: list}}) || !Same(other, moved(other)) {
				t.Errorf("%s: Same(%v, %v)", name, list, other)
			}
		}
		for _, other := range [][]api.Clause{nil, {}, list[:1], list[1:], {list[1], list[0]}, append(copied(list), list[1])} {
			if Same(list, other) || Same(other, list) {
				t.Errorf("Same(%v, %v)", list, other)
			}
		}
	}
	if !Same(nil, nil) || !Same(nil, []api.Clause{}) || !Same([]api.Clause{{}}, []api.Clause{{At: 5}}) || Same(nil, []api.Clause{{}}) {
		t.Error("Same of lists without words")
	}
}

func TestSameOfRandomLists(t *testing.T) {
	random := rand.New(rand.NewSource(25))
	for range 2000 {
		a, b := randomList(random, 2), randomList(random, 2)
		before := copied(a)
		want := reflect.DeepEqual(withoutOffsets(a), withoutOffsets(b))
		if Same(a, b) != want || Same(b, a) != want || !Same(a, moved(a)) || !reflect.DeepEqual(a, before) {
			t.Errorf("Same(%v, %v) is not %v", a, b, want)
		}
	}
}

// withoutOffsets returns a copy of a list without its offsets.
func withoutOffsets(list []api.Clause) []api.Clause {
	all := copied(list)
	for i := range all {
		all[i].At = 0
		for k := range all[i].Atoms {
			all[i].Atoms[k].At = 0
		}
		all[i].Kids = withoutOffsets(all[i].Kids)
	}
	return all
}

func TestCountAndDepth(t *testing.T) {
	leaf := api.Clause{Word: "a"}
	block := func(kids ...api.Clause) api.Clause { return api.Clause{Word: "a", Block: true, Kids: kids} }
	odd := func(kids ...api.Clause) api.Clause { return api.Clause{Word: "a", Kids: kids} }
	for i, c := range []struct {
		list         []api.Clause
		count, depth int
	}{
		{nil, 0, 0},
		{[]api.Clause{}, 0, 0},
		{[]api.Clause{{}}, 1, 0},
		{[]api.Clause{leaf, leaf}, 2, 0},
		{[]api.Clause{block()}, 1, 1},
		{[]api.Clause{block(leaf, leaf)}, 3, 1},
		{[]api.Clause{block(block()), leaf}, 3, 2},
		{[]api.Clause{leaf, block(leaf, block(block()), leaf), block()}, 7, 3},
		// Kids of entries without a block are counted, but have no depth.
		{[]api.Clause{odd(leaf)}, 2, 0},
		{[]api.Clause{odd(block(block()))}, 3, 0},
		{[]api.Clause{block(odd(block(leaf)))}, 4, 1},
		{[]api.Clause{odd(block(block())), block()}, 4, 1},
		{nested(8), 9, 8},
		{nested(9), 10, 9},
		{nested(1000), 1001, 1000},
	} {
		if n, d := Count(c.list), Depth(c.list); n != c.count || d != c.depth {
			t.Errorf("list %d: %d, %d; want %d, %d", i, n, d, c.count, c.depth)
		}
	}
}

// strangers are lists with an error in one entry.
func strangers() []api.Clause {
	var list []api.Clause
	for _, w := range []string{"", "1", "12", "1.5", "_", "a.b", "a b", "a-b", ";", "{", "é", "\"a\"", strings.Repeat("a", 33)} {
		list = append(list, api.Clause{Word: w}, api.Clause{Word: w, Block: true})
	}
	for _, token := range []api.Token{
		{}, {Kind: 6}, {Kind: -1}, {Kind: api.TokEnd}, {Kind: api.TokEnd, Text: "a"}, symbol(";"), symbol("{"), symbol("}"), symbol("!"), symbol("()"), symbol(""), word(""), word("1"), word("a.b"), word(strings.Repeat("a", 33)), number(-1), number(api.MaxNumber + 1), title(""), title(" a"), title("a\n"), title(strings.Repeat("a", 41)), {Kind: api.TokWord, Text: "a", N: 1}, {Kind: api.TokNumber, Text: "1"}, {Kind: api.TokSign, Text: "(", N: 1},
	} {
		list = append(list, api.Clause{Word: "a", Atoms: []api.Token{token}}, api.Clause{Word: "a", Atoms: []api.Token{word("b"), token, number(1)}, Block: true})
	}
	list = append(list, api.Clause{Word: "a", Kids: []api.Clause{{Word: "b"}}}, api.Clause{Word: "a", Kids: nested(20)}, api.Clause{Word: "a", Kids: []api.Clause{{}}})
	return list
}

func TestCheckFindsErrors(t *testing.T) {
	for _, c := range strangers() {
		for _, list := range [][]api.Clause{
			{c}, {{Word: "b"}, c}, {c, {Word: "b"}}, {{Word: "b", Block: true, Kids: []api.Clause{{Word: "c"}, c}}},
			// An error of an entry comes before the depth, wherever it is.
			append(nested(9), c), append([]api.Clause{c}, nested(9)...), within(9, c),
		} {
			before := copied(list)
			if e := Check(list); e != api.ErrSyntax || !reflect.DeepEqual(copied(list), before) {
				t.Errorf("Check(%v): %d", list, e)
			}
		}
	}
}

// within returns an entry within so many blocks.
func within(blocks int, c api.Clause) []api.Clause {
	list := []api.Clause{c}
	for range blocks {
		list = []api.Clause{{Word: "a", Block: true, Kids: list}}
	}
	return list
}

func TestCheckOfDepths(t *testing.T) {
	for blocks, want := range map[int]api.Errno{0: api.OK, 1: api.OK, 7: api.OK, 8: api.OK, 9: api.ErrLimit, 10: api.ErrLimit, 100: api.ErrLimit} {
		for _, list := range [][]api.Clause{nested(blocks), append(nested(1), nested(blocks)...), append(nested(blocks), nested(1)...)} {
			if e := Check(list); e != want {
				t.Errorf("Check of %d blocks: %d", blocks, e)
			}
		}
	}
	if e := Check(within(7, api.Clause{Word: "a", Block: true})); e != api.OK {
		t.Errorf("Check of eight blocks, the last one without entries: %d", e)
	}
	if e := Check(within(8, api.Clause{Word: "a", Block: true})); e != api.ErrLimit {
		t.Errorf("Check of nine blocks, the last one without entries: %d", e)
	}
}

func TestCheckOfPossibleLists(t *testing.T) {
	random := rand.New(rand.NewSource(26))
	for range 500 {
		list := randomList(random, 8)
		if e := Check(list); e != api.OK {
			t.Errorf("Check(%v): %d", list, e)
		}
		if e := Check(moved(list)); e != api.OK {
			t.Errorf("Check(%v): %d", moved(list), e)
		}
	}
	if Check(nil) != api.OK || Check([]api.Clause{}) != api.OK {
		t.Error("Check without entries")
	}
	// A list may be longer than a source.
	long := slices.Repeat([]api.Clause{{Word: strings.Repeat("a", 32), Atoms: slices.Repeat([]api.Token{word("b")}, 100)}}, 1000)
	if e := Check(long); e != api.OK {
		t.Errorf("Check of a long list: %d", e)
	}
}

func TestFind(t *testing.T) {
	list, f := Parse("a 1; b { a 2; } a { a 3; b; } A; ab; a;")
	if f != (api.Fault{}) {
		t.Fatal(f)
	}
	before := copied(list)
	for w, want := range map[string][]api.Clause{
		"a": {list[0], list[2], list[5]}, "b": {list[1]}, "A": {list[3]}, "ab": {list[4]}, "c": nil, "": nil, "a ": nil,
	} {
		if got := Find(list, w); len(got) != len(want) || len(want) > 0 && !reflect.DeepEqual(got, want) {
			t.Errorf("Find(%q): %v; want %v", w, got, want)
		}
	}
	if !reflect.DeepEqual(copied(list), before) || len(Find(nil, "a")) != 0 {
		t.Errorf("%v", list)
	}
	odd := []api.Clause{{Kids: []api.Clause{{Word: "a"}}}, {Word: "", Atoms: []api.Token{{}}}, {Word: "!", At: -1}}
	if got := Find(odd, ""); !reflect.DeepEqual(copied(got), copied(odd[:2])) {
		t.Errorf("Find: %v", got)
	}
	if got := Find(odd, "!"); !reflect.DeepEqual(copied(got), copied(odd[2:])) {
		t.Errorf("Find: %v", got)
	}
}

func TestFoundEntriesAreCopies(t *testing.T) {
	list, _ := Parse("a 1 2 { b 3; c { d 4; } } a;")
	want := copied(list)
	found := Find(list, "a")
	found[0].Atoms[0].N = 9
	found[0].Kids[0].Word = "x"
	found[0].Kids[1].Kids[0].Atoms[0].N = 9
	_ = append(found[0].Kids[:1], api.Clause{Word: "x"})
	_ = append(found[:1], api.Clause{Word: "x"})
	if !reflect.DeepEqual(copied(list), want) {
		t.Errorf("%v", list)
	}
}

func TestDeepLists(t *testing.T) {
	const blocks = 1 << 16
	list := nested(blocks)
	if Count(list) != blocks+1 || Depth(list) != blocks || Check(list) != api.ErrLimit || !Same(list, nested(blocks)) || Same(list, nested(blocks-1)) {
		t.Error("a deep list")
	}
	if found := Find(list, "a"); !Same(found, list) {
		t.Error("Find in a deep list")
	}
}
