package segment

import (
	"reflect"
	"slices"
	"strconv"
	"strings"
	"testing"

	"salchow/api"
	"salchow/formula"
	"salchow/parser"
)

// example is the source of the first example.
const example = "segment free { count 7; repeat 1; connections 1.5; require jump least 2 deduct 0.5; penalty fall value 1 most 9; panel art overall 0 to 10 step 0.25 judges 7 least 5 drop 1 tolerance 0.75; panel goe elements -5 to 5 step 1 judges 7 least 5 drop 1 tolerance 2 scale 0.1; score difficulty + goe + 2 * art - penalties; }"

// needed are the entries that must not be lacking.
const needed = "count 1; repeat 2; connections 0; score 1; "

// rules is the catalog of the tests.
func rules() api.Catalog {
	return api.Catalog{
		Groups:   []api.Group{{Name: "acro", Limit: 1}, {Name: "jump", Limit: 3, Credit: 500}, {Name: "spin", Limit: 2}},
		Classes:  []string{"c", "line"},
		Elements: []api.Element{{Code: "2A", Group: "jump", Value: 3300, Class: "c"}},
	}
}

// parsed returns the entry of a source.
func parsed(t *testing.T, source string) api.Clause {
	t.Helper()
	list, f := parser.Parse(source)
	if f != (api.Fault{}) || len(list) != 1 {
		t.Fatalf("Parse of %q: %d entries, %v", source, len(list), f)
	}
	return list[0]
}

// loaded returns the segment of a source.
func loaded(t *testing.T, source string) api.Segment {
	t.Helper()
	s, f := Load(rules(), parsed(t, source))
	if f != (api.Fault{}) {
		t.Fatalf("Load of %q: %v", source, f)
	}
	return s
}

// scored returns the formula of a source, with the offsets that it has there.
func scored(t *testing.T, source string) api.Expr {
	t.Helper()
	x, f := formula.Parse(parsed(t, "score "+source+";").Atoms)
	if f != (api.Fault{}) {
		t.Fatalf("%q: %v", source, f)
	}
	return x
}

// copiedClause returns a copy of an entry that shares no memory with it.
func copiedClause(k api.Clause) api.Clause {
	k.Atoms = slices.Concat(k.Atoms)
	kids := k.Kids
	k.Kids = nil
	for _, kid := range kids {
		k.Kids = append(k.Kids, copiedClause(kid))
	}
	return k
}

// copiedFormula returns a copy of a formula that shares no memory with it, without its offsets if they do not count.
func copiedFormula(x api.Expr, offsets bool) api.Expr {
	kids := x.Kids
	x.Kids = nil
	for _, kid := range kids {
		x.Kids = append(x.Kids, copiedFormula(kid, offsets))
	}
	if !offsets {
		x.At = 0
	}
	return x
}

// copiedSegment returns a copy of a segment that shares no memory with it, with nil for empty lists.
func copiedSegment(s api.Segment, offsets bool) api.Segment {
	s.Requires, s.Penalties, s.Panels = slices.Concat(s.Requires), slices.Concat(s.Penalties), slices.Concat(s.Panels)
	s.Score = copiedFormula(s.Score, offsets)
	return s
}

// same reports whether two segments are equal, offsets included.
func same(a, b api.Segment) bool {
	return reflect.DeepEqual(copiedSegment(a, true), copiedSegment(b, true))
}

// alike reports whether two segments are equal apart from the offsets in their formulas.
func alike(a, b api.Segment) bool {
	return reflect.DeepEqual(copiedSegment(a, false), copiedSegment(b, false))
}

func TestLoadOfExample(t *testing.T) {
	want := api.Segment{
		Name: "free", Count: 7, Repeat: 1, Connections: 1500,
		Requires:  []api.Require{{Group: "jump", Least: 2, Deduct: 500}},
		Penalties: []api.Penalty{{Name: "fall", Value: 1000, Most: 9}},
		Panels: []api.Panel{
			{Name: "art", Kind: api.PanelOverall, Lo: 0, Hi: 10000, Step: 250, Judges: 7, Least: 5, Drop: 1, Tolerance: 750},
			{Name: "goe", Kind: api.PanelElements, Lo: -5000, Hi: 5000, Step: 1000, Judges: 7, Least: 5, Drop: 1, Tolerance: 2000, Scale: 100},
		},
		Score: scored(t, "difficulty + goe + 2 * art - penalties"),
	}
	s := loaded(t, example)
	if !alike(s, want) {
		t.Errorf("%v; want %v", s, want)
	}
	if e := Check(rules(), s); e != api.OK {
		t.Errorf("Check: %d", e)
	}
	// The offsets in the formula are those of the source.
	if at := strings.Index(example, "- penalties"); s.Score.At != at || s.Score.Kids[1].At != at+2 {
		t.Errorf("%v; want offset %d", s.Score, at)
	}
}

func TestLoadSorts(t *testing.T) {
	s := loaded(t, `segment s_2 {
		penalty time value 0.3 most 30; require spin least 30 deduct 1000; connections 1000;
		panel zeal elements - 1000 to 0 step 1000 judges 15 least 15 drop 15 tolerance 1000 scale 1000;
		penalty a value 0 most 1; require acro least 1 deduct 0; repeat 30;
		panel b overall 0.001 to 0.001 step 0.001 judges 1 least 1 drop 0 tolerance 0;
		score max(zeal, 0.5) - b; count 30; penalty fall value 1000 most 2;
		panel a_1 overall -0 to 1000 step 999.999 judges 15 least 1 drop 2 tolerance 0.001; require jump least 4 deduct 0.001;
	}`)
	want := api.Segment{
		Name: "s_2", Count: 30, Repeat: 30, Connections: api.MaxMilli,
		Requires:  []api.Require{{Group: "acro", Least: 1}, {Group: "jump", Least: 4, Deduct: 1}, {Group: "spin", Least: 30, Deduct: api.MaxMilli}},
		Penalties: []api.Penalty{{Name: "a", Most: 1}, {Name: "fall", Value: api.MaxMilli, Most: 2}, {Name: "time", Value: 300, Most: 30}},
		Panels: []api.Panel{
			{Name: "a_1", Kind: api.PanelOverall, Hi: api.MaxMilli, Step: 999999, Judges: 15, Least: 1, Drop: 2, Tolerance: 1},
			{Name: "b", Kind: api.PanelOverall, Lo: 1, Hi: 1, Step: 1, Judges: 1, Least: 1},
			{Name: "zeal", Kind: api.PanelElements, Lo: -api.MaxMilli, Step: api.MaxMilli, Judges: 15, Least: 15, Drop: 15, Tolerance: api.MaxMilli, Scale: api.MaxMilli},
		},
		Score: scored(t, "max(zeal, 0.5) - b"),
	}
	if !alike(s, want) || Check(rules(), s) != api.OK {
		t.Errorf("%v; want %v", s, want)
	}
}

func TestLoadOfShortSegments(t *testing.T) {
	s := loaded(t, "segment a { "+needed+"}")
	if want := (api.Segment{Name: "a", Count: 1, Repeat: 2, Score: api.Expr{Op: api.ExprConst, N: 1000}}); !alike(s, want) {
		t.Errorf("%v", s)
	}
	// A segment and a penalty may have any name, also that of a variable or of a panel.
	const panels = "panel a overall 0 to 0 step 1 judges 1 least 1 drop 0 tolerance 0; panel min overall 0 to 0 step 1 judges 1 least 1 drop 0 tolerance 0; "
	for _, name := range []string{"difficulty", "penalties", "best", "total", "segment", "a", "min", "a234567890123456"} {
		s := loaded(t, "segment "+name+" { "+panels+"penalty "+name+" value 1 most 1; "+needed+"}")
		if s.Name != name || len(s.Panels) != 2 || s.Penalties[0].Name != name || Check(rules(), s) != api.OK {
			t.Errorf("%v", s)
		}
	}
}

// refuses checks that Load has a fault, and nothing else.
func refuses(t *testing.T, k api.Clause, want api.Fault) {
	t.Helper()
	before := copiedClause(k)
	c := rules()
	if s, f := Load(c, k); f != want || !same(s, api.Segment{}) {
		t.Errorf("Load of %v: %v, %v; want %v", k, s, f, want)
	}
	if !reflect.DeepEqual(copiedClause(k), before) || !reflect.DeepEqual(c, rules()) {
		t.Errorf("%v: the arguments have changed", before)
	}
}

// faults checks faults of entries in a block behind others; At counts from the end of those.
func faults(t *testing.T, before string, cases map[string]api.Fault) {
	t.Helper()
	before = "segment free { " + before
	for source, want := range cases {
		want.At += len(before)
		refuses(t, parsed(t, before+source+" }"), want)
	}
}

func TestFaultsOfTheEntry(t *testing.T) {
	for source, want := range map[string]api.Fault{
		" segments a { " + needed + "}":            {Code: api.ErrSyntax, At: 1},
		"  group a { " + needed + "}":              {Code: api.ErrSyntax, At: 2},
		" segment { " + needed + "}":               {Code: api.ErrSyntax, At: 1},
		" segment a;":                              {Code: api.ErrSyntax, At: 1},
		" segment;":                                {Code: api.ErrSyntax, At: 1},
		" segment A b;":                            {Code: api.ErrSyntax, At: 1},
		" segments 1 { frob; }":                    {Code: api.ErrSyntax, At: 1},
		" segment 1;":                              {Code: api.ErrSyntax, At: 1},
		" segment 1 { " + needed + "}":             {Code: api.ErrSyntax, At: 9},
		` segment "a" { ` + needed + "}":           {Code: api.ErrSyntax, At: 9},
		" segment - a { frob; }":                   {Code: api.ErrSyntax, At: 9},
		" segment a b { " + needed + "}":           {Code: api.ErrSyntax, At: 11},
		" segment A b { frob; }":                   {Code: api.ErrSyntax, At: 11},
		" segment a 1 { " + needed + "}":           {Code: api.ErrSyntax, At: 11},
		" segment a, { " + needed + "}":            {Code: api.ErrSyntax, At: 10},
		" segment A { " + needed + "}":             {Code: api.ErrName, At: 9},
		" segment 2a { frob; }":                    {Code: api.ErrName, At: 9},
		" segment a2345678901234567 { }":           {Code: api.ErrName, At: 9},
		" segment a { }":                           {Code: api.ErrSyntax, At: 1},
		" segment a { " + needed + " frob; }":      {Code: api.ErrSyntax, At: 14 + len(needed)},
		" segment a { " + needed + " segment a; }": {Code: api.ErrSyntax, At: 14 + len(needed)},
	} {
		refuses(t, parsed(t, source), want)
	}
	// Each of the four entries is necessary, and that is looked at last.
	parts := strings.SplitAfter(strings.TrimSpace(needed), ";")[:4]
	for i := range parts {
		rest := strings.Join(slices.Delete(slices.Clone(parts), i, i+1), " ")
		head := "\n segment a {" + rest
		refuses(t, parsed(t, head+"}"), api.Fault{Code: api.ErrSyntax, At: 2})
		refuses(t, parsed(t, head+" penalty a value 1 most 0; }"), api.Fault{Code: api.ErrRange, At: len(head) + 24})
		loaded(t, head+parts[i]+"}")
	}
}

func TestFaultsOfSyntax(t *testing.T) {
	at := func(n int) api.Fault { return api.Fault{Code: api.ErrSyntax, At: n} }
	const overall, elements = "panel a overall 0 to 1 step 1 judges 1 least 1 drop 0 tolerance 0", "panel a elements -1 to 1 step 1 judges 1 least 1 drop 0 tolerance 0 scale 1"
	faults(t, "", map[string]api.Fault{
		"frob;": at(0), "Count 1;": at(0), "count1 1;": at(0), "frob 1 {}": at(0), "group jump limit 1 credit 0;": at(0), "tie a;": at(0), "total 1;": at(0),
		"count;": at(0), "count {}": at(0), "count 1 {}": at(0), "count x;": at(6), "count - 1;": at(6), `count "1";`: at(6), "count 1 2;": at(8), "count 1 x {}": at(8), "count count 1;": at(6),
		"repeat;": at(0), "repeat { repeat 1; }": at(0), "repeat 1 {}": at(0), "repeat x;": at(7), "repeat 1 1;": at(9), "repeat 1, 2;": at(8),
		"connections;": at(0), "connections 1 {}": at(0), "connections {}": at(0), "connections x;": at(12), "connections - 1;": at(12), "connections 1 1;": at(14), "connections 1 + 1 {}": at(14),
		"require;": at(0), "require jump;": at(0), "require jump least;": at(0), "require jump least 1;": at(0), "require jump least 1 deduct;": at(0), "require {}": at(0), "require jump least 1 deduct 1 {}": at(0),
		"require 1 least 1 deduct 1;": at(8), `require "jump" least 1 deduct 1;`: at(8), "require least 1 deduct 1;": at(14), "require jump 1 deduct 1;": at(13), "require jump deduct 1 least 1;": at(13), `require jump "least" 1 deduct 1;`: at(13), "require jump Least 1 deduct 1;": at(13), "require jump most 1 deduct 1;": at(13), "require jump least x deduct 1;": at(19), "require jump least - 1 deduct 1;": at(19), "require jump least 1 1;": at(21), "require jump least 1 value 1;": at(21), "require jump least 1 deduct x;": at(28), "require jump least 1 deduct - 1;": at(28), "require jump least 1 deduct 1 1;": at(30), "require jump least 1 deduct 1 x {}": at(30),
		"penalty;": at(0), "penalty a;": at(0), "penalty a value;": at(0), "penalty a value 1;": at(0), "penalty a value 1 most;": at(0), "penalty {}": at(0), "penalty a value 1 most 1 {}": at(0),
		"penalty 1 value 1 most 1;": at(8), "penalty value 1 most 1;": at(14), "penalty a 1 most 1;": at(10), "penalty a most 1 value 1;": at(10), "penalty a deduct 1 most 1;": at(10), "penalty a value x most 1;": at(16), "penalty a value - 1 most 1;": at(16), "penalty a value 1 1;": at(18), "penalty a value 1 least 1;": at(18), "penalty a value 1 most x;": at(23), `penalty a value 1 most "1";`: at(23), "penalty a value 1 most 1 1;": at(25), "penalty a value 1 most 1; x {}": at(26),
		// The second atom decides which form a panel has.
		"panel;": at(0), "panel {}": at(0), "panel a;": at(0), "panel a {}": at(0), "panel a overall;": at(0), "panel a elements;": at(0), "panel a elements -;": at(0), "panel a overall {}": at(0), "panel 1;": at(6), "panel 1 overall;": at(6), `panel "a" overall 0;`: at(6), "panel overall 0;": at(14), "panel a both;": at(8), "panel a 0;": at(8), `panel a "overall" 0;`: at(8), "panel a - 0;": at(8), "panel a Elements;": at(8), "panel a overalls 0 to 1;": at(8), "panel a overall elements;": at(16), `panel a overall "-" 0 to 1;`: at(16), "panel a elements + 0 to 1;": at(17), "panel elements overall 0;": at(0), "panel overall elements 0 1;": at(25),
		overall + " {}": at(0), elements + " {}": at(0), overall + " 0;": at(len(overall) + 1), overall + " scale 1;": at(len(overall) + 1), elements + " 1 {}": at(len(elements) + 1), elements + " scale 1;": at(len(elements) + 1), strings.TrimSuffix(elements, " scale 1") + ";": at(0), strings.TrimSuffix(elements, " 1") + ";": at(0), strings.TrimSuffix(elements, "1") + "x;": at(len(elements) - 1),
		// Formulas have their own faults, but none of them without atoms.
		"score;": at(0), "score {}": at(0), "score 1 {}": at(0), "score a + {}": at(0), "score + {}": at(0), "score { score 1; }": at(0),
		"score 1 +;": at(8), "score + 1;": at(6), "score 1 2;": at(8), "score (1;": at(7), "score difficulty penalties;": at(17), "score difficulty + best /;": at(24), "score = 1;": at(6), `score "a";`: at(6),
	})
	// It comes before all other faults of an entry, but not before those of an entry before it.
	faults(t, needed+"penalty a value 1 most 1; ", map[string]api.Fault{
		"count 1 2;": at(8), "count;": at(0), "connections x;": at(12), "score;": at(0), "score 1 {}": at(0), "score b {}": at(0), "require x least 0 deduct 2000 x;": at(30), "penalty a value 2000 most 0 1;": at(28), "penalty A value 2000 most;": at(0), "panel total overall 0 to - 1;": at(25), "panel total overall 2000 to x;": at(28),
		"repeat 0; frob;": {Code: api.ErrTwice}, "penalty a value 1 most 1; count;": {Code: api.ErrTwice, At: 8},
	})
}

func TestSyntaxOfPanels(t *testing.T) {
	for _, source := range []string{
		"panel a overall 0 to 1 step 1 judges 1 least 1 drop 0 tolerance 0", "panel a overall - 0 to 1 step 1 judges 1 least 1 drop 0 tolerance 0",
		"panel a elements 0 to 1 step 1 judges 1 least 1 drop 0 tolerance 0 scale 1", "panel a elements - 0 to 1 step 1 judges 1 least 1 drop 0 tolerance 0 scale 1",
	} {
		words := strings.Fields(source)[1:]
		for i, word := range words {
			before := strings.Join(append([]string{"panel"}, words[:i]...), " ") + " "
			for _, other := range []string{"x", "1", "-", `"x"`, "+", strings.ToUpper(word)} {
				isName := i == 0 && other[0] >= 'A'
				isNumber := other == "1" && (word >= "0" && word <= "9" || word == "-")
				isSign := other == "-" && (word == "-" || i == 2)
				if isName || isNumber || isSign || other == word {
					continue
				}
				rest := strings.Join(words[i+1:], " ")
				faults(t, "", map[string]api.Fault{before + other + " " + rest + ";": {Code: api.ErrSyntax, At: len(before)}})
			}
			faults(t, "", map[string]api.Fault{before + ";": {Code: api.ErrSyntax}})
		}
		loaded(t, "segment free { "+needed+source+"; }")
	}
}

func TestNamesAndRepetitions(t *testing.T) {
	f := func(code api.Errno, at int) api.Fault { return api.Fault{Code: code, At: at} }
	const panel = " overall 0 to 1 step 1 judges 1 least 1 drop 0 tolerance 0;"
	faults(t, needed+"require jump least 1 deduct 1; penalty fall value 1 most 1; panel art"+panel, map[string]api.Fault{
		"count 8;": f(api.ErrTwice, 0), "repeat 2;": f(api.ErrTwice, 0), "connections 0;": f(api.ErrTwice, 0), "score 1;": f(api.ErrTwice, 0), " count 99;": f(api.ErrTwice, 1), " repeat 0.5;": f(api.ErrTwice, 1), " connections 2000;": f(api.ErrTwice, 1), " score none +;": f(api.ErrTwice, 1),
		"require floor least 1 deduct 1;": f(api.ErrName, 8), "require c least 1 deduct 1;": f(api.ErrName, 8), "require Jump least 1 deduct 1;": f(api.ErrName, 8), "require line least 0 deduct 2000;": f(api.ErrName, 8), "require jump least 1 deduct 1;": f(api.ErrTwice, 8), "require jump least 0 deduct 2000;": f(api.ErrTwice, 8), "require spin least 1 deduct 1; require acro least 1 deduct 1; require spin least 1 deduct 1;": f(api.ErrTwice, 70),
		"penalty Fall value 1 most 1;": f(api.ErrName, 8), "penalty 2a value 2000 most 0;": f(api.ErrName, 8), "penalty a2345678901234567 value 1 most 1;": f(api.ErrName, 8), "penalty fall value 1 most 1;": f(api.ErrTwice, 8), "penalty fall value 2000 most 0;": f(api.ErrTwice, 8),
		"panel Art" + panel: f(api.ErrName, 6), "panel 2a" + panel: f(api.ErrName, 6), "panel a2345678901234567" + panel: f(api.ErrName, 6), "panel difficulty" + panel: f(api.ErrName, 6), "panel penalties" + panel: f(api.ErrName, 6), "panel best" + panel: f(api.ErrName, 6), "panel total" + panel: f(api.ErrName, 6), "panel art" + panel: f(api.ErrTwice, 6), "panel total overall 2000 to 0 step 0 judges 0 least 0 drop 99 tolerance 2000;": f(api.ErrName, 6), "panel art elements 2000 to 0 step 0 judges 0 least 0 drop 99 tolerance 2000 scale 2000;": f(api.ErrTwice, 6), "panel a" + panel + "panel a" + panel: f(api.ErrTwice, 7+len(panel)+6),
	})
	// Names of other kinds do not count.
	loaded(t, "segment fall { "+needed+"require jump least 1 deduct 1; penalty fall value 1 most 1; panel art"+panel+"penalty art value 1 most 1; penalty jump value 1 most 1; penalty best value 1 most 1; penalty penalties value 1 most 1; panel jump"+panel+"panel fall"+panel+"panel min"+panel+"}")
}

func TestFaultsOfFormulas(t *testing.T) {
	f := func(code api.Errno, at int) api.Fault { return api.Fault{Code: code, At: at} }
	const panels = "panel art overall 0 to 1 step 1 judges 1 least 1 drop 0 tolerance 0; panel goe overall 0 to 1 step 1 judges 1 least 1 drop 0 tolerance 0; panel max overall 0 to 1 step 1 judges 1 least 1 drop 0 tolerance 0; penalty fall value 1 most 1; require jump least 1 deduct 1; "
	faults(t, panels, map[string]api.Fault{
		"score b;": f(api.ErrName, 6), "score art + b;": f(api.ErrName, 12), "score min(art, goe) + max(b, c);": f(api.ErrName, 26), "score fall;": f(api.ErrName, 6), "score jump;": f(api.ErrName, 6), "score total;": f(api.ErrName, 6), "score best;": f(api.ErrName, 6), "score free;": f(api.ErrName, 6), "score goe - (difficulty * (art + penaltie));": f(api.ErrName, 33),
		// The faults of the formula itself come first.
		"score b + Art;": f(api.ErrName, 10), "score b / 0;": f(api.ErrRange, 10), "score b c;": f(api.ErrSyntax, 8), "score b +;": f(api.ErrSyntax, 8), "score Art + b;": f(api.ErrName, 6), "score b " + strings.Repeat("+ b ", 128) + ";": f(api.ErrLimit, 8+4*127+2), "score " + strings.Repeat("-", 33) + " b;": f(api.ErrLimit, 38), "score max;": f(api.ErrSyntax, 6), "score min + 1;": f(api.ErrSyntax, 10),
	})
	for _, score := range []string{"1", "difficulty", "penalties", "art", "goe / 3", "min(art, max(goe, difficulty)) - -penalties * 1000000", strings.Repeat("-", 32) + "art", "art" + strings.Repeat(" + art", 127)} {
		s := loaded(t, "segment free { count 1; repeat 2; connections 0; "+panels+"score "+score+"; }")
		if !formula.Equal(s.Score, scored(t, score)) {
			t.Errorf("%s: %v", score, s.Score)
		}
	}
	// A panel is a variable behind its entry only.
	const art = "panel art overall 0 to 1 step 1 judges 1 least 1 drop 0 tolerance 0; "
	faults(t, "count 1; repeat 1; connections 0; ", map[string]api.Fault{"score art; " + art: f(api.ErrName, 6)})
	loaded(t, "segment free { "+art+"score art; count 1; repeat 1; connections 0; }")
}

func TestNumbersOutOfRange(t *testing.T) {
	// The place of the number is marked by #.
	const great = "1000.001 2000 1000000"
	const noItems = "0 0.001 0.5 0.999 1.5 29.999 30.001 30.5 31 1000000"
	for form, numbers := range map[string]string{
		"count #;": noItems, "repeat #;": noItems, "connections #;": great,
		"require jump least # deduct 2000;": noItems, "require jump least 1 deduct #;": great,
		"penalty a value # most 0;": great, "penalty a value 1 most #;": noItems,
		"panel a overall # to 0 step 0 judges 0 least 0 drop 99 tolerance 2000;":                    great,
		"panel a overall - # to 0 step 0 judges 0 least 0 drop 99 tolerance 2000;":                  great,
		"panel a elements # to 2000 step 0 judges 0 least 0 drop 99 tolerance 2000 scale 2000;":     great,
		"panel a overall 0 to # step 0 judges 0 least 0 drop 99 tolerance 2000;":                    great,
		"panel a overall 10 to # step 0 judges 0 least 0 drop 99 tolerance 2000;":                   great + " 9.999 9 0",
		"panel a elements -1 to # step 0 judges 0 least 0 drop 99 tolerance 2000 scale 2000;":       great,
		"panel a overall 0 to 1 step # judges 0 least 0 drop 99 tolerance 2000;":                    great + " 0",
		"panel a overall 0 to 1 step 1 judges # least 0 drop 99 tolerance 2000;":                    "0 0.999 1.5 15.001 15.5 16 30 1000000",
		"panel a overall 0 to 1 step 1 judges 3 least # drop 99 tolerance 2000;":                    "0 0.5 1.5 2.999 3.001 4 15 1000000",
		"panel a overall 0 to 1 step 1 judges 15 least # drop 99 tolerance 2000;":                   "0 14.5 16",
		"panel a overall 0 to 1 step 1 judges 3 least 1 drop # tolerance 2000;":                     "0.001 0.5 14.999 15.001 16 1000000",
		"panel a overall 0 to 1 step 1 judges 3 least 1 drop 15 tolerance #;":                       great,
		"panel a elements 0 to 1 step 1 judges 3 least 1 drop 15 tolerance # scale 2000;":           great,
		"panel a elements 0 to 1 step 1 judges 3 least 1 drop 15 tolerance 1000 scale #;":           great,
		"panel a elements - 1000 to 1000 step 1000 judges 15 least 15 drop 15 tolerance # scale 0;": great,
	} {
		before, behind, _ := strings.Cut(form, "#")
		for _, n := range strings.Fields(numbers) {
			faults(t, "", map[string]api.Fault{before + n + behind: {Code: api.ErrRange, At: len(before)}})
		}
	}
}

func TestNumbersInRange(t *testing.T) {
	for form, numbers := range map[string]string{
		"require jump least # deduct 0;": "1 2 29 30", "require jump least 1 deduct #;": "0 0.001 999.999 1000",
		"penalty a value # most 1;": "0 0.001 999.999 1000", "penalty a value 1 most #;": "1 2 29 30",
		"panel a overall # to 1000 step 1 judges 1 least 1 drop 0 tolerance 0;":             "0 0.001 999.999 1000",
		"panel a overall - # to 0 step 1 judges 1 least 1 drop 0 tolerance 0;":              "0 0.001 999.999 1000",
		"panel a overall 10 to # step 1 judges 1 least 1 drop 0 tolerance 0;":               "10 10.001 1000",
		"panel a elements - 1 to # step 1 judges 1 least 1 drop 0 tolerance 0 scale 0;":     "0 0.5 1 1000",
		"panel a overall 0 to 1 step # judges 1 least 1 drop 0 tolerance 0;":                "0.001 1 1000",
		"panel a overall 0 to 1 step 1 judges # least 1 drop 0 tolerance 0;":                "1 2 14 15",
		"panel a overall 0 to 1 step 1 judges 5 least # drop 15 tolerance 0;":               "1 4 5",
		"panel a overall 0 to 1 step 1 judges 5 least 1 drop # tolerance 0;":                "0 1 14 15",
		"panel a overall 0 to 1 step 1 judges 5 least 1 drop 0 tolerance #;":                "0 0.001 1000",
		"panel a elements 0 to 1 step 1 judges 5 least 1 drop 0 tolerance 1000 scale #;":    "0 0.001 1000",
		"panel a elements - 0.5 to 1 step 1 judges 5 least 1 drop 0 tolerance # scale 0.5;": "0 0.001 1000",
	} {
		for _, n := range strings.Fields(numbers) {
			s := loaded(t, "segment free { "+needed+strings.Replace(form, "#", n, 1)+" }")
			if e := Check(rules(), s); e != api.OK {
				t.Errorf("%s with %s: %d", form, n, e)
			}
		}
	}
	for i := 1; i <= 30; i++ {
		s := loaded(t, "segment free { count "+strconv.Itoa(i)+"; repeat "+strconv.Itoa(31-i)+"; connections 0.00"+strconv.Itoa(i%10)+"; score 1; }")
		if s.Count != i || s.Repeat != 31-i || s.Connections != int64(i%10) {
			t.Errorf("%v", s)
		}
	}
}

// repeated returns the source of so many entries; # stands for their numbers.
func repeated(n int, entry string) string {
	var all strings.Builder
	for i := range n {
		all.WriteString(strings.ReplaceAll(entry, "#", strconv.Itoa(i)) + " ")
	}
	return all.String()
}

func TestLimitsOfLoad(t *testing.T) {
	const panel = " overall 0 to 1 step 1 judges 1 least 1 drop 0 tolerance 0; "
	full := repeated(api.MaxPanels, "panel p#"+panel) + repeated(api.MaxPenalties, "penalty q# value 1 most 1;") + needed
	s := loaded(t, "segment free { "+full+"}")
	if len(s.Panels) != 6 || len(s.Penalties) != 12 || Check(rules(), s) != api.OK {
		t.Errorf("%d panels, %d penalties", len(s.Panels), len(s.Penalties))
	}
	limit := func(at int) api.Fault { return api.Fault{Code: api.ErrLimit, At: at} }
	syntax := func(at int) api.Fault { return api.Fault{Code: api.ErrSyntax, At: at} }
	faults(t, full, map[string]api.Fault{
		"panel p" + panel: limit(0), " panel p0" + panel: limit(1), "panel total" + panel: limit(0), "panel p elements 2 to 1 step 0 judges 0 least 0 drop 99 tolerance 0 scale 0;": limit(0), " penalty q value 1 most 1;": limit(1), "penalty q0 value 1 most 1;": limit(0), "penalty Q value 2000 most 0;": limit(0), "require jump least 1 deduct 1; penalty q value 1 most 1;": limit(31),
		"panel p;": syntax(0), "panel p overall x;": syntax(16), "penalty q value;": syntax(0), "penalty q value 1 most 1 1;": syntax(25),
	})
	faults(t, repeated(api.MaxPanels, "panel p#"+panel), map[string]api.Fault{"panel p" + panel: limit(0), "penalty q value 1 most 0;": {Code: api.ErrRange, At: 23}})
	faults(t, repeated(api.MaxPenalties, "penalty q# value 1 most 1;"), map[string]api.Fault{"penalty q value 1 most 0;": limit(0), "panel total" + panel: {Code: api.ErrName, At: 6}})
}
