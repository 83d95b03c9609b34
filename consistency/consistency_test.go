package consistency

import (
	"reflect"
	"slices"
	"strings"
	"testing"

	"salchow/api"
	"salchow/ruleset"
)

// head is the first part of the sources of the tests.
const head = "discipline figure season 2026; publish 3 half_up; rank exact; "

// loaded returns the ruleset of a source.
func loaded(t *testing.T, source string) api.Ruleset {
	t.Helper()
	r, f := ruleset.Load(source)
	if f != (api.Fault{}) {
		t.Fatalf("Load of %q: %v", source, f)
	}
	return r
}

// segmentOf returns the source of a segment with a count, a repeat, and more entries.
func segmentOf(name, count, repeat, more string) string {
	return "segment " + name + " { count " + count + "; repeat " + repeat + "; connections 0; " + more + " score difficulty; } "
}

// texts returns the texts of the findings about a ruleset.
func texts(t *testing.T, r api.Ruleset) []string {
	t.Helper()
	findings, e := Check(r)
	if e != api.OK {
		t.Fatalf("Check: %d", e)
	}
	var list []string
	for _, f := range findings {
		list = append(list, Text(f))
	}
	return list
}

// copiedRuleset returns a copy of a ruleset that shares no memory with it.
func copiedRuleset(r api.Ruleset) api.Ruleset {
	r.Catalog = api.Catalog{Groups: slices.Clone(r.Catalog.Groups), Classes: slices.Clone(r.Catalog.Classes), Elements: slices.Clone(r.Catalog.Elements), Connects: slices.Clone(r.Catalog.Connects)}
	r.Ties, r.Segments = slices.Clone(r.Ties), slices.Clone(r.Segments)
	for i, s := range r.Segments {
		s.Requires, s.Penalties, s.Panels, s.Score = slices.Clone(s.Requires), slices.Clone(s.Penalties), slices.Clone(s.Panels), copiedFormula(s.Score)
		r.Segments[i] = s
	}
	return r
}

// copiedFormula returns a copy of a formula that shares no memory with it.
func copiedFormula(x api.Expr) api.Expr {
	x.Kids = slices.Clone(x.Kids)
	for i, kid := range x.Kids {
		x.Kids[i] = copiedFormula(kid)
	}
	return x
}

// everything is the source of a ruleset with findings of all kinds.
const everything = head + `
group jump limit 2 credit 0.5; group lift limit 4 credit 1; group spin limit 9 credit 0; group turn limit 1 credit 1; group hold limit 1 credit 0;
class a; class b; class c; class d; class e;
element 2A group jump value 3.3 class a; element 3A group jump value 8 class b lower 2A;
element Sp group spin value 0; element Sq group spin value 1 class d lower Sp; element Sr group spin value 1 lower Sq; element Ss group spin value 1 lower Sr; element S0 group spin value 0 lower Sp;
element L group lift value 2;
connect a b value 0.5; connect a c value 1; connect c a value 0; connect c e value 2; connect b b value 3;
segment short { count 3; repeat 1; connections 0; require jump least 3 deduct 1; require turn least 1 deduct 1; require spin least 2 deduct 1; panel zeal overall 0 to 10 step 1 judges 5 least 3 drop 1 tolerance 1; panel art elements 0 to 1 step 1 judges 5 least 3 drop 1 tolerance 1 scale 1; panel used overall 0 to 10 step 1 judges 5 least 3 drop 1 tolerance 1; score 0 * used; }
segment free { count 3; repeat 1; connections 0; require jump least 2 deduct 1; require spin least 2 deduct 1; panel art elements - 1000 to 1000 step 1 judges 5 least 3 drop 1 tolerance 1 scale 1000; score difficulty; }
segment even { count 4; repeat 1; connections 0; require jump least 2 deduct 1; require spin least 2 deduct 1; score 1000000 * 1000000 * 1000; }
`

func TestCheck(t *testing.T) {
	r := loaded(t, everything)
	before := copiedRuleset(r)
	want := []Finding{
		{Unreachable, "short", "jump", 2}, {Unreachable, "short", "turn", 0},
		{Together, "free", "", 4},
		{Idle, "", "hold", 1}, {Idle, "", "lift", 4}, {Idle, "", "spin", 9}, {Idle, "", "turn", 1},
		{NoCredit, "", "turn", 1000},
		{Unused, "", "c", 0}, {Unused, "", "e", 0},
		{Strange, "", "a+c", 1000}, {Strange, "", "c+a", 0}, {Strange, "", "c+e", 2000},
		{Dominated, "", "S0", 0}, {Dominated, "", "Sr", 1000}, {Dominated, "", "Ss", 1000},
		{Overflow, "even", "", -1}, {Overflow, "free", "", 0},
		{Flat, "free", "art", 0}, {Flat, "short", "art", 0}, {Flat, "short", "zeal", 0},
	}
	findings, e := Check(r)
	if e != api.OK || !slices.Equal(findings, want) {
		t.Errorf("Check: %v, %d", findings, e)
	}
	clear(findings)
	if again, _ := Check(r); !slices.Equal(again, want) || !reflect.DeepEqual(r, before) {
		t.Errorf("Check of the same ruleset: %v", again)
	}
	if Clean(r) {
		t.Error("a ruleset with an overflow is clean")
	}
	// Offsets do not count, and without findings there are none.
	r = loaded(t, head+"group jump limit 1 credit 1; class a; element A group jump value 1 class a; connect a a value 1; segment free { count 1; repeat 1; connections 0; require jump least 1 deduct 1; panel art overall 0 to 1 step 1 judges 1 least 1 drop 0 tolerance 0; score difficulty + art; }")
	r.Segments[0].Score.At = -1
	if list := texts(t, r); len(list) != 0 || !Clean(r) {
		t.Errorf("Check of clean rules: %v", list)
	}
}

func TestRequirements(t *testing.T) {
	const catalog = head + "group jump limit 2 credit 0; group spin limit 30 credit 0; group turn limit 3 credit 0; element 2A group jump value 3.3; element 3A group jump value 8; element Sp group spin value 0; element Sq group spin value 1; element Sr group spin value 2; element Ss group spin value 0.001; element T group turn value 0; "
	type most struct{ jump, spin, turn int }
	for _, c := range []struct {
		count, repeat, requires string
		most                    most
		witness, why            string
	}{
		{"3", "1", "require jump least 3 deduct 1;", most{2, 3, 0}, "", "unreachable: free jump 2"},
		{"3", "1", "require jump least 2 deduct 1;", most{2, 3, 0}, "2A 3A", ""},
		{"3", "1", "require jump least 2 deduct 1; require spin least 2 deduct 1;", most{2, 3, 0}, "", "together: free 4"},
		{"4", "1", "require spin least 2 deduct 1; require jump least 2 deduct 1;", most{2, 3, 0}, "2A 3A Sq Sr", ""},
		{"3", "1", "require spin least 2 deduct 0; require jump least 1 deduct 0;", most{2, 3, 0}, "2A Sq Sr", ""},
		{"1", "1", "", most{1, 1, 0}, "", ""},
		{"1", "1", "require spin least 1 deduct 1;", most{1, 1, 0}, "Sq", ""},
		{"1", "1", "require spin least 2 deduct 1;", most{1, 1, 0}, "", "unreachable: free spin 1"},
		{"30", "1", "require spin least 3 deduct 1;", most{2, 3, 0}, "Sq Sr Ss", ""},
		{"30", "1", "require spin least 4 deduct 1;", most{2, 3, 0}, "", "unreachable: free spin 3"},
		{"30", "2", "require spin least 5 deduct 1; require jump least 2 deduct 1;", most{2, 6, 0}, "2A 2A Sq Sq Sr Sr Ss", ""},
		{"30", "3", "require spin least 9 deduct 1; require jump least 2 deduct 1;", most{2, 9, 0}, "2A 2A Sq Sq Sq Sr Sr Sr Ss Ss Ss", ""},
		{"30", "30", "require spin least 28 deduct 1; require jump least 2 deduct 1;", most{2, 30, 0}, "2A 2A" + strings.Repeat(" Sq", 28), ""},
		{"30", "30", "require spin least 29 deduct 1; require jump least 2 deduct 1;", most{2, 30, 0}, "", "together: free 31"},
		{"30", "1", "require turn least 1 deduct 1;", most{2, 3, 0}, "", "unreachable: free turn 0"},
		{"5", "2", "require jump least 3 deduct 1; require spin least 6 deduct 1; require turn least 3 deduct 1;", most{2, 5, 0}, "", "unreachable: free jump 2, unreachable: free spin 5, unreachable: free turn 0"},
	} {
		// Another segment with the same requirements, but other numbers, before it.
		r := loaded(t, catalog+segmentOf("before", "30", "30", strings.ReplaceAll(c.requires, "require turn", "# ")+"\n")+segmentOf("free", c.count, c.repeat, c.requires))
		before := copiedRuleset(r)
		for group, want := range map[string]int{"jump": c.most.jump, "spin": c.most.spin, "turn": c.most.turn} {
			if n, e := Most(r, "free", group); n != want || e != api.OK {
				t.Errorf("Most of %v, %s: %d, %d; want %d", c, group, n, e, want)
			}
		}
		witness, e := Fulfil(r, "free")
		want := api.OK
		if c.why != "" {
			want = api.ErrNone
		}
		if e != want || !slices.Equal(witness, strings.Fields(c.witness)) {
			t.Errorf("Fulfil of %v: %q, %d", c, witness, e)
		}
		inFree := func(text string) bool { return strings.Contains(text, " free ") }
		list := slices.DeleteFunc(texts(t, r), func(text string) bool { return !inFree(text) })
		if strings.Join(list, ", ") != c.why || !reflect.DeepEqual(r, before) {
			t.Errorf("Check of %v: %q", c, list)
		}
		if !Clean(r) {
			t.Errorf("%v is not clean", c)
		}
	}
}

func TestIdle(t *testing.T) {
	for _, c := range []struct {
		group, segments string
		want            string
	}{
		{"limit 3 credit 0", segmentOf("a", "3", "1", ""), ""},
		{"limit 4 credit 0", segmentOf("a", "30", "1", ""), "idle: jump 4"},
		{"limit 6 credit 0", segmentOf("a", "30", "2", ""), ""},
		{"limit 7 credit 0", segmentOf("a", "30", "2", ""), "idle: jump 7"},
		{"limit 3 credit 0", segmentOf("a", "2", "30", ""), "idle: jump 3"},
		{"limit 2 credit 0", segmentOf("a", "2", "30", ""), ""},
		{"limit 3 credit 0", segmentOf("a", "2", "30", "") + segmentOf("b", "3", "1", ""), ""},
		{"limit 3 credit 0", segmentOf("a", "3", "1", "") + segmentOf("b", "2", "30", ""), ""},
		{"limit 4 credit 0", segmentOf("a", "3", "2", "") + segmentOf("b", "4", "1", ""), "idle: jump 4"},
		{"limit 4 credit 0", segmentOf("a", "3", "2", "") + segmentOf("b", "4", "1", "") + segmentOf("c", "4", "2", ""), ""},
	} {
		// Elements without a value are elements, too; those of other groups are not.
		r := loaded(t, head+"group jump "+c.group+"; group spin limit 1 credit 9; element A group jump value 0; element B group jump value 1; element C group jump value 2; element D group spin value 1; "+c.segments)
		if list := texts(t, r); strings.Join(list, ", ") != c.want {
			t.Errorf("Check of %v: %q", c, list)
		}
	}
	// Of groups without elements every limit is idle, and a credit is for nothing.
	r := loaded(t, head+"group jump limit 1 credit 0.001; group spin limit 1 credit 0; "+segmentOf("a", "30", "30", ""))
	if list := texts(t, r); !slices.Equal(list, []string{"idle: jump 1", "idle: spin 1", "credit: jump 1"}) {
		t.Errorf("Check of empty groups: %q", list)
	}
}

func TestClasses(t *testing.T) {
	const catalog = head + "group jump limit 1 credit 0; class a; class a_b; class ab; class b; class c; element A group jump value 1 class a; element B group jump value 1 class b; element C group jump value 1; connect a a value 1; connect a b value 0; connect b a value 2; "
	for connects, want := range map[string]string{
		"":                     "",
		"connect a c value 1;": "strange: a+c 1000",
		"connect c b value 1000; connect c c value 0;":                       "strange: c+b 1000000, strange: c+c 0",
		"connect ab a value 1; connect a_b b value 2; connect a ab value 3;": "strange: a+ab 3000, strange: a_b+b 2000, strange: ab+a 1000",
	} {
		list := texts(t, loaded(t, catalog+connects+segmentOf("a1", "1", "1", "")))
		all := "unused: a_b 0, unused: ab 0, unused: c 0"
		if want != "" {
			all += ", " + want
		}
		if strings.Join(list, ", ") != all {
			t.Errorf("Check with %q: %q", connects, list)
		}
	}
}

func TestText(t *testing.T) {
	for want, f := range map[string]Finding{
		"unreachable: free jump 2": {1, "free", "jump", 2}, "together: free 4": {2, "free", "", 4}, "idle: jump 7": {3, "", "jump", 7}, "credit: jump 500": {4, "", "jump", 500}, "unused: c 0": {5, "", "c", 0}, "strange: a+b 100": {6, "", "a+b", 100}, "dominated: 2A 3300": {7, "", "2A", 3300}, "overflow: free -1": {8, "free", "", -1}, "flat: free art 0": {9, "free", "art", 0},
		// Any fields.
		"flat: 0": {9, "", "", 0}, "overflow: 3A 9223372036854775807": {8, "", "3A", 1<<63 - 1}, "idle:   \x00é -9223372036854775808": {3, " ", "\x00é", -1 << 63}, "unused: a b 1": {5, "a b", "", 1},
	} {
		if text := Text(f); text != want {
			t.Errorf("Text of %v: %q; want %q", f, text, want)
		}
	}
	for _, kind := range []int{0, 10, -1, 11, -9, 1 << 62, -1 << 63, 1<<32 + 1} {
		if text := Text(Finding{kind, "free", "jump", 1}); text != "" {
			t.Errorf("Text of the kind %d: %q", kind, text)
		}
	}
}

func TestErrors(t *testing.T) {
	valid := loaded(t, everything)
	for name, change := range map[string]func(r *api.Ruleset){
		"nothing":                    func(r *api.Ruleset) { *r = api.Ruleset{} },
		"no name":                    func(r *api.Ruleset) { r.Name = "" },
		"no segments":                func(r *api.Ruleset) { r.Segments = nil },
		"segments out of order":      func(r *api.Ruleset) { slices.Reverse(r.Segments) },
		"digits":                     func(r *api.Ruleset) { r.Digits = 4 },
		"an element without a group": func(r *api.Ruleset) { r.Catalog.Elements[0].Group = "none" },
		"a chain without an end":     func(r *api.Ruleset) { r.Catalog.Elements[4].Lower = "S0" },
		"a limit":                    func(r *api.Ruleset) { r.Catalog.Groups[0].Limit = -1 },
		"a negative repeat":          func(r *api.Ruleset) { r.Segments[0].Repeat = -1 },
		"a great count":              func(r *api.Ruleset) { r.Segments[0].Count = 1 << 62 },
		"a requirement of no group":  func(r *api.Ruleset) { r.Segments[0].Requires[0].Group = "none" },
		"a great requirement":        func(r *api.Ruleset) { r.Segments[0].Requires[0].Least = 31 },
		"no formula":                 func(r *api.Ruleset) { r.Segments[0].Score = api.Expr{} },
		"a quotient by zero": func(r *api.Ruleset) {
			r.Segments[0].Score = api.Expr{Op: api.ExprDiv, Kids: []api.Expr{{Op: api.ExprConst}, {Op: api.ExprConst}}}
		},
		"a variable of no panel":    func(r *api.Ruleset) { r.Segments[0].Score = api.Expr{Op: api.ExprVar, Name: "none"} },
		"panels with the same name": func(r *api.Ruleset) { r.Segments[1].Panels = append(r.Segments[1].Panels, r.Segments[1].Panels[0]) },
	} {
		r := copiedRuleset(valid)
		change(&r)
		before := copiedRuleset(r)
		if findings, e := Check(r); len(findings) != 0 || e != api.ErrArgument || Clean(r) {
			t.Errorf("Check with %s: %v, %d", name, findings, e)
		}
		for _, segment := range []string{"free", "none", ""} {
			for _, group := range []string{"jump", "none", ""} {
				if n, e := Most(r, segment, group); n != 0 || e != api.ErrArgument {
					t.Errorf("Most with %s: %d, %d", name, n, e)
				}
			}
			if witness, e := Fulfil(r, segment); len(witness) != 0 || e != api.ErrArgument {
				t.Errorf("Fulfil with %s: %q, %d", name, witness, e)
			}
		}
		if !reflect.DeepEqual(r, before) {
			t.Errorf("%s: changed", name)
		}
	}
	for _, c := range [][2]string{{"none", "jump"}, {"free", "none"}, {"none", "none"}, {"", ""}, {"free", ""}, {"", "jump"}, {"jump", "free"}, {"art", "jump"}, {"free", "a"}, {"Free", "jump"}, {"free", "jump "}} {
		if n, e := Most(valid, c[0], c[1]); n != 0 || e != api.ErrName {
			t.Errorf("Most of %q: %d, %d", c, n, e)
		}
	}
	for segment, want := range map[string]api.Errno{"": api.ErrName, "none": api.ErrName, "art": api.ErrName, "difficulty": api.ErrName, "\x00": api.ErrName, "short": api.ErrNone, "free": api.ErrNone, "even": api.OK} {
		if witness, e := Fulfil(valid, segment); e != want || (want != api.OK) != (len(witness) == 0) {
			t.Errorf("Fulfil of %q: %q, %d", segment, witness, e)
		}
	}
}
