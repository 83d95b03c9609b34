package segment

import (
	"math/rand"
	"reflect"
	"slices"
	"strings"
	"testing"

	"salchow/api"
	"salchow/parser"
	"salchow/printer"
)

// printed returns the source of the entry of a segment.
func printed(t *testing.T, s api.Segment) string {
	t.Helper()
	k, e := Clause(rules(), s)
	if e != api.OK {
		t.Fatalf("Clause of %v: %d", s, e)
	}
	source, e := printer.Print([]api.Clause{k})
	if e != api.OK {
		t.Fatalf("Print of %v: %d", k, e)
	}
	return source
}

func TestClauseOfExample(t *testing.T) {
	if source := printed(t, loaded(t, example)); !printer.Equal(source, example) {
		t.Error(source)
	}
}

func TestOrderInClauses(t *testing.T) {
	const want = `segment free {
  count 7;
  repeat 1;
  connections 1.5;
  require acro least 1 deduct 0.25;
  require jump least 2 deduct 0.5;
  penalty fall value 1 most 9;
  penalty time value 0.3 most 1;
  panel art overall 0 to 10 step 0.25 judges 7 least 5 drop 1 tolerance 0.75;
  panel b overall 0.5 to 1 step 0.1 judges 3 least 3 drop 0 tolerance 0.001;
  panel goe elements - 5 to 5 step 1 judges 7 least 1 drop 3 tolerance 2 scale 0.1;
  score art + (goe + penalties);
}
`
	if source := printed(t, sample()); source != want {
		t.Error(source)
	}
	s := api.Segment{Name: "a", Count: 30, Repeat: 2, Score: api.Expr{Op: api.ExprConst, N: 1500}}
	if source := printed(t, s); source != "segment a {\n  count 30;\n  repeat 2;\n  connections 0;\n  score 1.5;\n}\n" {
		t.Error(source)
	}
	// The entries may have any order in the source.
	const source = "segment free { panel b overall 0 to 1 step 1 judges 1 least 1 drop 0 tolerance 0; score (((b)) + 0) * (2); penalty b value 1 most 1; panel a overall 0 to 1 step 1 judges 1 least 1 drop 0 tolerance 0; require spin least 1 deduct 1; connections 1.0; penalty a value 1 most 1; repeat 1; require acro least 1 deduct 1; count 1; }"
	var words []string
	k, _ := Clause(rules(), loaded(t, source))
	for _, kid := range k.Kids {
		words = append(words, kid.Word+" "+kid.Atoms[0].Text)
	}
	if !slices.Equal(words, []string{"count ", "repeat ", "connections ", "require acro", "require spin", "penalty a", "penalty b", "panel a", "panel b", "score ("}) || len(k.Kids[9].Atoms) != 7 {
		t.Errorf("%q", words)
	}
}

// withoutOffsets reports whether all offsets of an entry are 0.
func withoutOffsets(k api.Clause) bool {
	has := func(atom api.Token) bool { return atom.At != 0 }
	other := func(kid api.Clause) bool { return !withoutOffsets(kid) }
	return k.At == 0 && !slices.ContainsFunc(k.Atoms, has) && !slices.ContainsFunc(k.Kids, other)
}

func TestClausesOfRandomSegments(t *testing.T) {
	random := rand.New(rand.NewSource(74))
	for range 5000 {
		s := draw(random)
		before := copiedSegment(s, true)
		k, e := Clause(rules(), s)
		if e != api.OK || parser.Check([]api.Clause{k}) != api.OK || !withoutOffsets(k) {
			t.Errorf("Clause of %v: %v, %d", s, k, e)
		}
		if other, f := Load(rules(), k); f != (api.Fault{}) || !alike(s, other) || !same(s, before) {
			t.Errorf("Load of Clause of %v: %v, %v", s, other, f)
		}
		// The text of the entry has the text of the formula, and the entry is that of the segment without its other offsets.
		if source := printed(t, s); !printer.Equal(source, sourceOf(s)) {
			t.Errorf("%s; want %s", source, sourceOf(s))
		}
		again, _ := Clause(rules(), moved(s))
		if !reflect.DeepEqual(copiedClause(k), copiedClause(again)) {
			t.Errorf("%v; want %v", again, k)
		}
	}
}

// moved returns a copy of a segment with other offsets in its formula.
func moved(s api.Segment) api.Segment {
	s = copiedSegment(s, false)
	s.Score.At = 99
	return s
}

func TestClausesShareNoMemory(t *testing.T) {
	s := sample()
	k, _ := Clause(rules(), s)
	want := copiedClause(k)
	for i := range k.Kids {
		_ = append(k.Kids[i].Atoms, api.Token{Kind: 99})
	}
	_ = append(k.Atoms, api.Token{Kind: 99})
	if !reflect.DeepEqual(copiedClause(k), want) {
		t.Error("the entries share memory")
	}
	k.Kids[9].Atoms[0].Text, k.Kids[10].Atoms[0].Text, k.Atoms[0].Text = "x", "x", "x"
	if again, _ := Clause(rules(), s); !same(s, sample()) || !reflect.DeepEqual(copiedClause(again), want) {
		t.Error("the entry shares memory with the segment")
	}
	// Load keeps nothing of an entry.
	again := copiedClause(want)
	loadedBefore, _ := Load(rules(), again)
	copyOfIt := copiedSegment(loadedBefore, true)
	for i := range again.Kids {
		for j := range again.Kids[i].Atoms {
			again.Kids[i].Atoms[j] = api.Token{}
		}
	}
	if !same(loadedBefore, copyOfIt) {
		t.Error("the segment shares memory with the entry")
	}
}

func TestStrangeArguments(t *testing.T) {
	// The results are unspecified, but there are some.
	token := func(kind int, text string, n int64) api.Token { return api.Token{Kind: kind, Text: text, N: n} }
	atoms := [][]api.Token{
		nil, {token(0, "", 0)}, {token(2, "", -1<<63)}, {token(2, "", 1<<63-1)}, {token(5, "", 0)}, {token(1, "", 0)}, {token(4, ";", 0), token(4, "{", 0)}, {token(2, "", -1), token(2, "", -1)},
		{token(1, "a", 0), token(1, "overall", 0), token(4, "-", 0), token(2, "", -1<<63), token(1, "to", 0), token(2, "", -1<<63), token(1, "step", 0), token(2, "", -1<<63), token(1, "judges", 0), token(2, "", -1<<63), token(1, "least", 0), token(2, "", -1000), token(1, "drop", 0), token(2, "", -1000), token(1, "tolerance", 0), token(2, "", -1)},
		{token(1, "jump", 0), token(1, "least", 0), token(2, "", -1000), token(1, "deduct", 0), token(2, "", -1)},
		{token(1, "a", 0), token(1, "value", 0), token(2, "", -1<<62), token(1, "most", 0), token(2, "", -1<<63)},
	}
	for _, word := range []string{"", "count", "repeat", "connections", "require", "penalty", "panel", "score", "{"} {
		for _, list := range atoms {
			for _, block := range []bool{false, true} {
				entry := api.Clause{Word: word, Atoms: list, Block: block, Kids: []api.Clause{{Kids: []api.Clause{{}}}}}
				Load(rules(), entry)
				Load(api.Catalog{}, api.Clause{Word: "segment", Atoms: list, Block: block, Kids: []api.Clause{entry}})
				Load(rules(), api.Clause{Word: "segment", Atoms: []api.Token{token(1, "a", 0)}, Block: true, Kids: []api.Clause{entry, entry}})
			}
		}
	}
	deep := variable("a")
	for range 1 << 16 {
		deep = api.Expr{Op: api.ExprNeg, Kids: []api.Expr{deep}}
	}
	huge := api.Segment{Name: strings.Repeat("a", 1<<20), Score: deep, Requires: make([]api.Require, 1<<16)}
	for _, c := range []api.Catalog{{}, rules(), {Groups: make([]api.Group, 1<<16)}} {
		refusesSegment(t, "nothing", api.Segment{}, api.ErrArgument)
		if e := Check(c, huge); e != api.ErrArgument {
			t.Errorf("Check of a deep formula: %d", e)
		}
		if _, e := Clause(c, api.Segment{Panels: make([]api.Panel, 1<<16)}); e != api.ErrLimit {
			t.Errorf("Clause of many panels: %d", e)
		}
	}
}
