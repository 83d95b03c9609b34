package ruleset

import (
	"reflect"
	"slices"
	"strconv"
	"strings"
	"testing"

	"salchow/api"
	"salchow/parser"
)

// example is the source of the first example.
const example = "discipline figure season 2026; publish 2 half_up; rank exact; group jump limit 7 credit 0; element 2A group jump value 3.3; segment free { count 7; repeat 1; connections 0; panel art overall 0 to 10 step 0.25 judges 7 least 5 drop 1 tolerance 1; score difficulty + art; } tie art best;"

// parsed returns the entries of a source.
func parsed(t *testing.T, source string) []api.Clause {
	t.Helper()
	list, f := parser.Parse(source)
	if f != (api.Fault{}) {
		t.Fatalf("Parse of %q: %v", source, f)
	}
	return list
}

// loaded returns the ruleset of a source.
func loaded(t *testing.T, source string) api.Ruleset {
	t.Helper()
	r, f := Load(source)
	if f != (api.Fault{}) {
		t.Fatalf("Load of %q: %v", source, f)
	}
	return r
}

// copied returns a copy of a list that shares no memory with it.
func copied(list []api.Clause) []api.Clause {
	var all []api.Clause
	for _, k := range list {
		k.Atoms, k.Kids = slices.Concat(k.Atoms), copied(k.Kids)
		all = append(all, k)
	}
	return all
}

// copiedFormula returns a copy of a formula that shares no memory with it, without its offsets if they do not count.
func copiedFormula(x api.Expr, offsets bool) api.Expr {
	kids := x.Kids
	x.Kids = nil
	for _, kid := range kids {
		x.Kids = append(x.Kids, copiedFormula(kid, offsets))
	}
	if !offsets {
		x.At = 0
	}
	return x
}

// copiedSegment returns a copy of a segment that shares no memory with it, with nil for empty lists.
func copiedSegment(s api.Segment, offsets bool) api.Segment {
	s.Requires, s.Penalties, s.Panels = slices.Concat(s.Requires), slices.Concat(s.Penalties), slices.Concat(s.Panels)
	s.Score = copiedFormula(s.Score, offsets)
	return s
}

// copiedRuleset returns a copy of a ruleset that shares no memory with it, with nil for empty lists.
func copiedRuleset(r api.Ruleset, offsets bool) api.Ruleset {
	c := r.Catalog
	r.Catalog = api.Catalog{Groups: slices.Concat(c.Groups), Classes: slices.Concat(c.Classes), Elements: slices.Concat(c.Elements), Connects: slices.Concat(c.Connects)}
	r.Ties = slices.Concat(r.Ties)
	segments := r.Segments
	r.Segments = nil
	for _, s := range segments {
		r.Segments = append(r.Segments, copiedSegment(s, offsets))
	}
	return r
}

// same reports whether two rulesets are equal, offsets included.
func same(a, b api.Ruleset) bool {
	return reflect.DeepEqual(copiedRuleset(a, true), copiedRuleset(b, true))
}

// alike reports whether two rulesets are equal apart from the offsets in their formulas.
func alike(a, b api.Ruleset) bool {
	return reflect.DeepEqual(copiedRuleset(a, false), copiedRuleset(b, false))
}

// variable returns the formula of a name.
func variable(name string) api.Expr { return api.Expr{Op: api.ExprVar, Name: name} }

// sum returns the formula of a sum.
func sum(a, b api.Expr) api.Expr { return api.Expr{Op: api.ExprAdd, Kids: []api.Expr{a, b}} }

func TestLoadOfExample(t *testing.T) {
	want := api.Ruleset{
		Name: "figure", Season: 2026, Digits: 2, Mode: api.HalfUp, Exact: true,
		Catalog: api.Catalog{Groups: []api.Group{{Name: "jump", Limit: 7}}, Elements: []api.Element{{Code: "2A", Group: "jump", Value: 3300}}},
		Ties:    []string{"art", "best"},
		Segments: []api.Segment{{
			Name: "free", Count: 7, Repeat: 1,
			Panels: []api.Panel{{Name: "art", Kind: api.PanelOverall, Hi: 10000, Step: 250, Judges: 7, Least: 5, Drop: 1, Tolerance: 1000}},
			Score:  sum(variable("difficulty"), variable("art")),
		}},
	}
	r := loaded(t, example)
	if !alike(r, want) || !Valid(r) {
		t.Errorf("%v; want %v", r, want)
	}
	if at := strings.Index(example, "+ art"); r.Segments[0].Score.At != at {
		t.Errorf("the formula is at %d; want %d", r.Segments[0].Score.At, at)
	}
	built, f := Build(parsed(t, example))
	if f != (api.Fault{}) || !same(built, r) {
		t.Errorf("Build: %v, %v", built, f)
	}
}

// short is a segment without panels, # stands for its name.
const short = "segment # { count 1; repeat 1; connections 0; score 1; } "

// named returns segments without panels with names.
func named(names ...string) string {
	all := ""
	for _, name := range names {
		all += strings.ReplaceAll(short, "#", name)
	}
	return all
}

// paneled returns a segment with panels.
func paneled(name string, panels ...string) string {
	source := "segment " + name + " { count 1; repeat 1; connections 0; "
	for _, panel := range panels {
		source += "panel " + panel + " overall 0 to 1 step 1 judges 1 least 1 drop 0 tolerance 0; "
	}
	return source + "score 1; } "
}

func TestFormsOfEntries(t *testing.T) {
	for _, c := range []struct {
		publish, rank string
		digits, mode  int
		exact         bool
	}{
		{"publish 0 down;", "rank exact;", 0, api.Down, true}, {"publish 1 half_up;", "rank published;", 1, api.HalfUp, false}, {"publish 2 half_even;", "rank exact;", 2, api.HalfEven, true}, {"publish 3 down;", "rank published;", 3, api.Down, false}, {"publish 3.0 half_even;", "rank published;", 3, api.HalfEven, false},
	} {
		want := api.Ruleset{Name: "a", Season: 1, Digits: c.digits, Mode: c.mode, Exact: c.exact, Segments: []api.Segment{{Name: "b", Count: 1, Repeat: 1, Score: api.Expr{Op: api.ExprConst, N: 1000}}}}
		// What stands behind discipline may have any order, if the catalog stands before the segments.
		for _, source := range []string{c.publish + c.rank + named("b"), c.rank + c.publish + named("b"), named("b") + c.rank + c.publish, c.rank + named("b") + c.publish} {
			if r := loaded(t, "discipline a season 1;"+source); !alike(r, want) {
				t.Errorf("%q: %v", source, r)
			}
		}
	}
	for name, season := range map[string]int{"a": 1, "season": 2, "discipline": 9998, "a234567890123456": 9999, "total": 2026} {
		r := loaded(t, "discipline "+name+" season "+strconv.Itoa(season)+"; publish 0 down; rank exact; "+named("b"))
		if r.Name != name || r.Season != season || !Valid(r) {
			t.Errorf("%v", r)
		}
	}
}

func TestTies(t *testing.T) {
	const head = "discipline a season 1; publish 0 down; rank exact; "
	segments := paneled("free", "art", "goe") + paneled("short", "art", "zeal", "min") + named("tie", "rank", "bars", "beam", "floor")
	for _, ties := range []string{"", "best", "free", "art", "penalties difficulty", "zeal best goe short tie rank", "min tie free", "short art goe difficulty zeal penalties free best bars floor beam min"} {
		tie := ""
		if ties != "" {
			tie = "tie " + ties + "; "
		}
		for _, source := range []string{head + segments + tie, head + tie + segments, "discipline a season 1;" + tie + "publish 0 down; rank exact;" + segments} {
			r := loaded(t, source)
			if !slices.Equal(r.Ties, strings.Fields(ties)) || !Valid(r) {
				t.Errorf("%q: %q", source, r.Ties)
			}
		}
	}
}

func TestOrderOfSegmentsAndCatalog(t *testing.T) {
	const head = "discipline a season 1; rank exact; "
	want := loaded(t, head+"publish 0 down; class c; class d; group a limit 1 credit 0; group b limit 2 credit 1; element A group a value 1; element B group b value 1 class c; connect c d value 1; connect d c value 2;"+paneled("bars", "art")+named("free")+paneled("short", "art"))
	for _, source := range []string{
		"class d; group b limit 2 credit 1; group a limit 1 credit 0; class c; connect d c value 2; element B group b value 1 class c; connect c d value 1; element A group a value 1;" + paneled("short", "art") + named("free") + paneled("bars", "art") + "publish 0 down;",
		"group b limit 2 credit 1; class c; element B group b value 1 class c; group a limit 1 credit 0; element A group a value 1; class d; publish 0 down; connect c d value 1; connect d c value 2;" + named("free") + paneled("short", "art") + paneled("bars", "art"),
	} {
		if r := loaded(t, head+source); !alike(r, want) || !Equal(r, want) {
			t.Errorf("%v; want %v", r, want)
		}
	}
	if len(want.Segments) != 3 || want.Segments[0].Name != "bars" || want.Segments[1].Name != "free" || want.Segments[2].Name != "short" || want.Catalog.Groups[0].Name != "a" {
		t.Errorf("%v", want)
	}
}

// refuses checks that Load and Build have a fault, and nothing else.
func refuses(t *testing.T, source string, want api.Fault) {
	t.Helper()
	if r, f := Load(source); f != want || !same(r, api.Ruleset{}) {
		t.Errorf("Load of %q: %v, %v; want %v", source, r, f, want)
	}
	list, f := parser.Parse(source)
	if f.Code != api.OK {
		return
	}
	before := copied(list)
	if r, f := Build(list); f != want || !same(r, api.Ruleset{}) {
		t.Errorf("Build of %q: %v, %v; want %v", source, r, f, want)
	}
	if !reflect.DeepEqual(copied(list), before) {
		t.Errorf("%q: the entries have changed", source)
	}
}

// faults checks faults of sources behind a beginning; At counts from the end of the beginning.
func faults(t *testing.T, before string, cases map[string]api.Fault) {
	t.Helper()
	for source, want := range cases {
		want.At += len(before)
		refuses(t, before+source, want)
	}
}

func TestFaultsOfParsing(t *testing.T) {
	for source, want := range map[string]api.Fault{
		"discipline a":                          {Code: api.ErrSyntax, At: 12},
		"rank exact; 5;":                        {Code: api.ErrSyntax, At: 12},
		"rank exact; discipline a 1.2345;":      {Code: api.ErrSyntax, At: 25},
		"rank 1000001;":                         {Code: api.ErrRange, At: 5},
		example + " }":                          {Code: api.ErrSyntax, At: len(example) + 1},
		example + strings.Repeat(" ", 66000):    {Code: api.ErrLimit, At: api.MaxSource},
		"a" + strings.Repeat("{a", 9) + "{ } }": {Code: api.ErrLimit, At: 17},
	} {
		refuses(t, source, want)
	}
}

func TestFirstEntry(t *testing.T) {
	refuses(t, "", api.Fault{Code: api.ErrOrder})
	refuses(t, "  # nothing", api.Fault{Code: api.ErrOrder})
	for _, first := range []string{"publish 0 down;", "rank exact;", "frob;", "tie;", "segment free;", "Discipline a season 1;", "disciplines;", "group { discipline a season 1; }", "class C;"} {
		refuses(t, " "+first, api.Fault{Code: api.ErrOrder, At: 1})
		refuses(t, "  "+first+" discipline a season 1; "+example, api.Fault{Code: api.ErrOrder, At: 2})
	}
}

func TestFaultsOfSyntax(t *testing.T) {
	at := func(n int) api.Fault { return api.Fault{Code: api.ErrSyntax, At: n} }
	faults(t, " ", map[string]api.Fault{
		"discipline;": at(0), "discipline a;": at(0), "discipline a season;": at(0), "discipline {}": at(0), "discipline a season 1 {}": at(0), "discipline a season { season 1; }": at(0),
		"discipline 1;": at(11), `discipline "a" season 1;`: at(11), "discipline - a season 1;": at(11), "discipline season 1;": at(18), "discipline a 1;": at(13), "discipline a Season 1;": at(13), `discipline a "season" 1;`: at(13), "discipline a season a;": at(20), "discipline a season - 1;": at(20), `discipline a season "1";`: at(20), "discipline a season 1 1;": at(22), "discipline a season 1 x {}": at(22), "discipline a, season 1;": at(12), "discipline A season 0 1;": at(22),
	})
	faults(t, "discipline a season 1; ", map[string]api.Fault{
		"frob;": at(0), "frob 1 { a; }": at(0), "Publish 0 down;": at(0), "total;": at(0), "segments free;": at(0), "ties best;": at(0), "count 1;": at(0),
		"discipline;": at(0), "discipline b;": at(0), "discipline b season 1 {}": at(0), "discipline b season x;": at(20),
		"publish;": at(0), "publish {}": at(0), "publish 1;": at(0), "publish 1 {}": at(0), "publish 1 down {}": at(0), "publish down;": at(8), "publish down 1;": at(8), `publish "1" down;`: at(8), "publish - 1 down;": at(8), "publish 1 up;": at(10), "publish 1 half;": at(10), "publish 1 halfup;": at(10), "publish 1 Down;": at(10), "publish 1 exact;": at(10), "publish 1 1;": at(10), `publish 1 "down";`: at(10), "publish 1 down half_up;": at(15), "publish 1 half_even 1 {}": at(20), "publish 9 down 1;": at(15),
		"rank;": at(0), "rank {}": at(0), "rank exact {}": at(0), "rank published { rank; }": at(0), "rank down;": at(5), "rank 1;": at(5), `rank "exact";`: at(5), "rank Exact;": at(5), "rank exactly {}": at(5), "rank exact published;": at(11), "rank published 1;": at(15), "rank exact, published;": at(10), "rank + {}": at(5),
		"tie;": at(0), "tie {}": at(0), "tie best {}": at(0), "tie best art free {}": at(0), "tie 1;": at(4), `tie "best";`: at(4), "tie best, art;": at(8), "tie best 1 best;": at(9), "tie best best 1;": at(14), "tie best - difficulty {}": at(9), "tie a b c d e f g h i j k l m 1;": at(30),
	})
	// Other faults of the same entry come behind it.
	faults(t, example, map[string]api.Fault{
		"discipline;": at(0), "publish 1;": at(0), "publish 9 x;": at(10), "rank;": at(0), "rank exact {}": at(0), "tie;": at(0), "tie best {}": at(0), "tie best best 1;": at(14), "frob;": at(0),
	})
}

func TestRepetitionsAndOrder(t *testing.T) {
	f := func(code api.Errno) api.Fault { return api.Fault{Code: code} }
	faults(t, example+" ", map[string]api.Fault{
		"discipline b season 1;": f(api.ErrTwice), "discipline B season 0;": f(api.ErrTwice), "publish 1 down;": f(api.ErrTwice), "publish 2 half_up;": f(api.ErrTwice), "publish 9 down;": f(api.ErrTwice), "rank exact;": f(api.ErrTwice), "rank published;": f(api.ErrTwice), "tie best;": f(api.ErrTwice), "tie none best best;": f(api.ErrTwice),
		"group spin limit 1 credit 0;": f(api.ErrOrder), "class c;": f(api.ErrOrder), "element 3A group jump value 8;": f(api.ErrOrder), "connect c c value 1;": f(api.ErrOrder), "group;": f(api.ErrOrder), "class C {}": f(api.ErrOrder), "element;": f(api.ErrOrder), "connect;": f(api.ErrOrder),
	})
	// A segment counts even if it has a fault itself, since that is looked at later.
	const head = "discipline a season 1; publish 0 down; rank exact; "
	faults(t, head+"segment; ", map[string]api.Fault{"class c;": f(api.ErrOrder), "frob;": f(api.ErrSyntax), "rank exact;": f(api.ErrTwice), "tie free free;": {Code: api.ErrTwice, At: 9}})
	faults(t, head+"group; element 5; ", map[string]api.Fault{"segment; class c;": {Code: api.ErrOrder, At: 9}, "publish 2 half_up;": f(api.ErrTwice)})
	// An entry in a block is none of the ruleset.
	faults(t, head, map[string]api.Fault{"segment free { rank exact; }": {Code: api.ErrSyntax, At: 15}, "segment free { class c; } class c;": {Code: api.ErrOrder, At: 26}})
}

func TestAtomsOfEntries(t *testing.T) {
	f := func(code api.Errno, at int) api.Fault { return api.Fault{Code: code, At: at} }
	faults(t, "", map[string]api.Fault{
		"discipline Figure season 1;": f(api.ErrName, 11), "discipline 2a season 1;": f(api.ErrName, 11), "discipline a2345678901234567 season 0;": f(api.ErrName, 11), "discipline a_B season 0.5;": f(api.ErrName, 11),
		"discipline a season 0;": f(api.ErrRange, 20), "discipline a season 0.001;": f(api.ErrRange, 20), "discipline a season 1.5;": f(api.ErrRange, 20), "discipline a season 9998.999;": f(api.ErrRange, 20), "discipline a season 9999.001;": f(api.ErrRange, 20), "discipline a season 10000;": f(api.ErrRange, 20), "discipline a season 1000000;": f(api.ErrRange, 20),
	})
	faults(t, "discipline a season 1; ", map[string]api.Fault{
		"publish 4 down;": f(api.ErrRange, 8), "publish 0.5 half_up;": f(api.ErrRange, 8), "publish 2.999 half_even;": f(api.ErrRange, 8), "publish 3.001 down;": f(api.ErrRange, 8), "publish 1000000 down;": f(api.ErrRange, 8), "publish 1000 down;": f(api.ErrRange, 8),
		"tie best best;": f(api.ErrTwice, 9), "tie a b A c A;": f(api.ErrTwice, 12), "tie a b c d e f g h i j k l m;": f(api.ErrLimit, 28), "tie a b c d e f g h i j k l a;": f(api.ErrLimit, 28), "tie a b c d e f g h i j k k l;": f(api.ErrTwice, 26), "tie a b c d e f g h i j k a m;": f(api.ErrTwice, 26),
		// The first entry with a fault counts.
		"tie best best; publish 9 down;": f(api.ErrTwice, 9), "publish 9 down; tie best best;": f(api.ErrRange, 8), "class C; frob;": f(api.ErrSyntax, 9),
	})
}

func TestLimitOfSegments(t *testing.T) {
	const head = "discipline a season 1; publish 0 down; rank exact; "
	names := []string{"h", "g", "f", "e", "d", "c", "b", "a"}
	if r := loaded(t, head+named(names...)); len(r.Segments) != 8 || !Valid(r) {
		t.Errorf("%d segments", len(r.Segments))
	}
	faults(t, head+named(names...), map[string]api.Fault{named("i"): {Code: api.ErrLimit}, " " + named("a"): {Code: api.ErrLimit, At: 1}, "  segment;": {Code: api.ErrLimit, At: 2}, "rank exact; segment i;": {Code: api.ErrTwice}, "tie a b c; segment i;": {Code: api.ErrLimit, At: 11}})
	faults(t, head+strings.Repeat("segment;", 8), map[string]api.Fault{"segment;": {Code: api.ErrLimit}, "class c;": {Code: api.ErrOrder}})
}

func TestFaultsOfCatalogsAndSegments(t *testing.T) {
	f := func(code api.Errno, at int) api.Fault { return api.Fault{Code: code, At: at} }
	const head = "discipline a season 1; publish 0 down; "
	faults(t, head+"group jump limit 1 credit 0; ", map[string]api.Fault{
		"group jump limit 1 credit 0;": f(api.ErrTwice, 6), "class C;": f(api.ErrName, 6), "element 2A group spin value 1;": f(api.ErrName, 17), "class c; connect c d value 1; segment a;": f(api.ErrName, 19), "element 2A group jump value 1 lower 2A;": f(api.ErrName, 36), "group spin limit 1;": f(api.ErrSyntax, 0),
		"segment;": f(api.ErrSyntax, 0), "segment A { }": f(api.ErrName, 8), "segment b { }": f(api.ErrSyntax, 0), "segment b { count 31; }": f(api.ErrRange, 18), "segment b { require jump least 1 deduct 1; require spin least 1 deduct 1; }": f(api.ErrName, 51), "segment b { score art; }": f(api.ErrName, 18),
		// The catalog comes before all segments, and the segments in their order.
		"class C; segment;": f(api.ErrName, 6), named("b") + "segment c; segment D {}": f(api.ErrSyntax, len(named("b"))), "segment c { repeat 0; } " + named("best"): f(api.ErrRange, 19), named("best") + "segment c { repeat 0; } ": f(api.ErrName, 8), named("b", "b") + "segment;": f(api.ErrTwice, len(named("b"))+8), named("b") + "segment;" + named("b"): f(api.ErrSyntax, len(named("b"))),
	})
}

func TestNamesOfSegments(t *testing.T) {
	const head = "discipline a season 1; publish 0 down; rank exact; "
	refused := func(code api.Errno, before, source string) {
		t.Helper()
		faults(t, head+before, map[string]api.Fault{source: {Code: code, At: 8}, source + "tie none; ": {Code: code, At: 8}})
	}
	for _, name := range []string{"difficulty", "penalties", "best", "total"} {
		refused(api.ErrName, "", named(name))
		refused(api.ErrName, named("free"), paneled(name, "art"))
	}
	refused(api.ErrTwice, named("free"), named("free"))
	refused(api.ErrTwice, named("free", "short"), named("free"))
	refused(api.ErrTwice, "", paneled("free", "free"))
	refused(api.ErrTwice, "", paneled("free", "art", "goe", "free"))
	refused(api.ErrTwice, paneled("free", "art", "goe"), named("goe"))
	refused(api.ErrTwice, paneled("free", "art")+named("short"), paneled("art", "goe"))
	refused(api.ErrTwice, named("free", "short"), paneled("beam", "art", "free"))
	refused(api.ErrTwice, named("free", "short"), paneled("beam", "short", "art"))
	// The segment itself is looked at first.
	faults(t, head+named("free"), map[string]api.Fault{"segment free { count 0; }": {Code: api.ErrRange, At: 21}, "segment best {}": {Code: api.ErrSyntax}})
	// Segments may share the names of panels, and those of groups, classes and penalties are others.
	r := loaded(t, head+"group free limit 1 credit 0; class short; "+paneled("free", "art", "a", "exact")+paneled("short", "art", "exact")+strings.Replace(named("beam"), "score", "penalty free value 1 most 1; penalty beam value 1 most 1; score", 1)+"tie free a;")
	if !Valid(r) || len(r.Segments) != 3 {
		t.Errorf("%v", r)
	}
}

func TestFaultsOfTies(t *testing.T) {
	segments := "discipline a season 1; publish 0 down; rank exact; group jump limit 1 credit 0; class line; " + paneled("free", "art") + strings.Replace(named("short"), "score", "penalty fall value 1 most 1; score", 1)
	for _, name := range []string{"beam", "total", "jump", "line", "fall", "a", "exact", "Art", "free_", "min", "ar"} {
		faults(t, segments, map[string]api.Fault{
			"tie " + name + ";": {Code: api.ErrName, At: 4}, "tie best art free " + name + " short;": {Code: api.ErrName, At: 18}, "tie short " + name + " none;": {Code: api.ErrName, At: 10},
		})
	}
	// All segments count, but their faults come first.
	refuses(t, "discipline a season 1; tie b; publish 0 down; rank exact; "+named("c"), api.Fault{Code: api.ErrName, At: 27})
	refuses(t, "discipline a season 1; tie c; publish 0 down; rank exact; "+named("c", "best"), api.Fault{Code: api.ErrName, At: 58 + len(named("c")) + 8})
	// What is lacking comes last.
	refuses(t, "discipline a season 1; tie b; ", api.Fault{Code: api.ErrName, At: 27})
	refuses(t, "discipline a season 1; tie best;", api.Fault{Code: api.ErrNone})
}

func TestWhatIsLacking(t *testing.T) {
	parts := []string{"publish 0 down; ", "rank exact; ", named("free")}
	for set := range 7 {
		source := "  discipline a season 1; "
		for i, part := range parts {
			if set>>i&1 == 1 {
				source += part
			}
		}
		refuses(t, source, api.Fault{Code: api.ErrNone, At: 2})
		refuses(t, source+"tie best;", api.Fault{Code: api.ErrNone, At: 2})
	}
	refuses(t, "discipline a season 1; group jump limit 1 credit 0; publish 0 down; rank exact;", api.Fault{Code: api.ErrNone})
	loaded(t, "discipline a season 1; "+strings.Join(parts, ""))
}

func TestExamplesOfFaults(t *testing.T) {
	refuses(t, strings.Replace(example, "rank exact; ", "", 1), api.Fault{Code: api.ErrNone})
	refuses(t, strings.Replace(example, "tie art best", "tie beam", 1), api.Fault{Code: api.ErrName, At: strings.Index(example, "tie") + 4})
	at := strings.Index(example, "tie")
	refuses(t, example[:at]+named("art")+example[at:], api.Fault{Code: api.ErrTwice, At: at + 8})
}
