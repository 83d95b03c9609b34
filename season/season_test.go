package season

import (
	"reflect"
	"slices"
	"strings"
	"testing"

	"salchow/api"
	"salchow/parser"
	"salchow/ruleset"
)

// sample is the source of a ruleset with everything that rulesets can have, in its canonical form.
const sample = `discipline figure season 2026;
publish 2 half_even;
rank published;
group jump limit 7 credit 0.5;
group spin limit 3 credit 0;
class c;
class d;
element 1A group jump value 1.1;
element B group jump value 3;
element 3A group jump value 8 class c lower 1A;
element A group jump value 4 lower B;
element 2A group jump value 8 class c lower A;
connect c c value 0.5;
connect c d value 1;
segment free {
  count 7;
  repeat 1;
  connections 1.5;
  require jump least 2 deduct 0.5;
  penalty fall value 1 most 9;
  panel art overall 0 to 10 step 0.25 judges 7 least 5 drop 1 tolerance 0.75;
  panel goe elements - 5 to 5 step 1 judges 9 least 5 drop 2 tolerance 2 scale 0.1;
  score difficulty + goe + max (2 * art, 1.5) - penalties;
}
segment short {
  count 5;
  repeat 2;
  connections 0;
  score difficulty;
}
tie short art best;
`

// keys are the keys of the parts of the sample, in their order.
var keys = []string{"class c", "class d", "connect c c", "connect c d", "discipline", "element 1A", "element 2A", "element 3A", "element A", "element B", "group jump", "group spin", "publish", "rank", "segment free", "segment short", "tie"}

// loaded returns the ruleset of a source.
func loaded(t *testing.T, source string) api.Ruleset {
	t.Helper()
	r, f := ruleset.Load(source)
	if f != (api.Fault{}) {
		t.Fatalf("Load of %q: %v", source, f)
	}
	return r
}

// partsOf returns the parts of a ruleset.
func partsOf(t *testing.T, r api.Ruleset) []api.Part {
	t.Helper()
	parts, e := Parts(r)
	if e != api.OK {
		t.Fatalf("Parts: %d", e)
	}
	return parts
}

// copiedRuleset returns a copy of a ruleset that shares no memory with it.
func copiedRuleset(r api.Ruleset) api.Ruleset {
	r.Catalog = api.Catalog{Groups: slices.Clone(r.Catalog.Groups), Classes: slices.Clone(r.Catalog.Classes), Elements: slices.Clone(r.Catalog.Elements), Connects: slices.Clone(r.Catalog.Connects)}
	r.Ties, r.Segments = slices.Clone(r.Ties), slices.Clone(r.Segments)
	for i, s := range r.Segments {
		s.Requires, s.Penalties, s.Panels, s.Score = slices.Clone(s.Requires), slices.Clone(s.Penalties), slices.Clone(s.Panels), copiedFormula(s.Score)
		r.Segments[i] = s
	}
	return r
}

// copiedFormula returns a copy of a formula that shares no memory with it.
func copiedFormula(x api.Expr) api.Expr {
	x.Kids = slices.Clone(x.Kids)
	for i, kid := range x.Kids {
		x.Kids[i] = copiedFormula(kid)
	}
	return x
}

// changed returns the parts of the sample with other values; an empty value removes a part.
func changed(t *testing.T, values map[string]string) []api.Part {
	t.Helper()
	var list []api.Part
	for _, p := range partsOf(t, loaded(t, sample)) {
		if _, ok := values[p.Key]; !ok {
			list = append(list, p)
		}
	}
	for key, value := range values {
		if value != "" {
			list = append(list, api.Part{Key: key, Value: value})
		}
	}
	slices.SortFunc(list, func(a, b api.Part) int { return strings.Compare(a.Key, b.Key) })
	return list
}

func TestParts(t *testing.T) {
	r := loaded(t, sample)
	before := copiedRuleset(r)
	parts := partsOf(t, r)
	var got, values []string
	for _, p := range parts {
		got, values = append(got, p.Key), append(values, p.Value)
		if !strings.HasPrefix(p.Value, p.Key) || !strings.HasSuffix(p.Value, "\n") || !strings.Contains(sample, p.Value) {
			t.Errorf("the part %q", p)
		}
	}
	if !slices.Equal(got, keys) || !reflect.DeepEqual(r, before) {
		t.Errorf("Parts: %q", got)
	}
	if joined := strings.Join(values, ""); len(joined) != len(sample) {
		t.Errorf("the values have %d bytes: %s", len(joined), joined)
	}
	for key, value := range map[string]string{
		"discipline": "discipline figure season 2026;\n", "connect c d": "connect c d value 1;\n", "element 3A": "element 3A group jump value 8 class c lower 1A;\n", "tie": "tie short art best;\n", "segment short": "segment short {\n  count 5;\n  repeat 2;\n  connections 0;\n  score difficulty;\n}\n",
	} {
		if !slices.Contains(parts, api.Part{Key: key, Value: value}) {
			t.Errorf("%s lacks in %q", key, parts)
		}
	}
	clear(parts)
	if again := partsOf(t, r); again[0] != (api.Part{Key: "class c", Value: "class c;\n"}) {
		t.Errorf("Parts of the same ruleset: %q", again)
	}
	// Offsets do not count.
	r.Segments[0].Score.At = -1
	if !slices.Equal(partsOf(t, r), partsOf(t, before)) {
		t.Error("Parts with another offset")
	}
}

func TestKeysOfParts(t *testing.T) {
	// Keys are compared bytewise: capital letters before small ones, a blank before everything.
	r := loaded(t, "discipline tie season 1; publish 0 down; rank exact; group lower limit 1 credit 0; class class; class a; class a_b; class ab; element lower group lower value 0 class class; element Ab group lower value 0 lower lower; element A group lower value 0 class a; element a group lower value 0; connect ab a value 0; connect a ab value 0; connect a_b a value 0; segment tie { count 1; repeat 1; connections 0; score 1; } segment discipline { count 1; repeat 1; connections 0; score 1; }")
	var got []string
	parts := partsOf(t, r)
	for _, p := range parts {
		got = append(got, p.Key)
	}
	want := []string{"class a", "class a_b", "class ab", "class class", "connect a ab", "connect a_b a", "connect ab a", "discipline", "element A", "element Ab", "element a", "element lower", "group lower", "publish", "rank", "segment discipline", "segment tie"}
	if !slices.Equal(got, want) {
		t.Errorf("%q", got)
	}
	if built, e := Build(parts); e != api.OK || !ruleset.Equal(built, r) {
		t.Errorf("Build: %v, %d", built, e)
	}
}

func TestBuild(t *testing.T) {
	r := loaded(t, sample)
	parts := partsOf(t, r)
	before := slices.Clone(parts)
	built, e := Build(parts)
	if e != api.OK || !ruleset.Equal(built, r) || !slices.Equal(parts, before) {
		t.Errorf("Build: %v, %d", built, e)
	}
	// The result shares no memory with another one.
	again, _ := Build(parts)
	clear(built.Catalog.Elements)
	clear(built.Segments[0].Panels)
	built.Segments[0].Score.Kids[0] = api.Expr{}
	if !ruleset.Equal(again, r) {
		t.Error("two results share memory")
	}
	for name, values := range map[string]map[string]string{
		"a part less":            {"segment short": "", "tie": "tie art best;\n"},
		"no ties":                {"tie": ""},
		"another value":          {"element 3A": "element 3A group spin value 1.1;\n"},
		"a value in other words": {"segment short": "segment short {\n  score difficulty;\n  connections 0;\n  repeat 2;\n  count 5;\n}\n"},
		"a long chain":           {"element B": "element B group jump value 3 lower 1A;\n", "element 1A": "element 1A group jump value 1.1 lower Z;\n", "element Z": "element Z group jump value 0 class d lower Y;\n", "element Y": "element Y group jump value 0;\n"},
		"a new group":            {"group a": "group a limit 1 credit 1;\n", "element a": "element a group a value 1;\n"},
		"no elements":            {"element 1A": "", "element 2A": "", "element 3A": "", "element A": "", "element B": ""},
	} {
		list := changed(t, values)
		built, e := Build(list)
		if e != api.OK || !ruleset.Valid(built) {
			t.Errorf("Build with %s: %d", name, e)
			continue
		}
		again := partsOf(t, built)
		if name != "a value in other words" && !slices.Equal(again, list) || len(again) != len(list) {
			t.Errorf("Build with %s: %q; want %q", name, again, list)
		}
	}
}

func TestErrorsOfBuild(t *testing.T) {
	refuses := func(name string, parts []api.Part, want api.Errno) {
		t.Helper()
		before := slices.Clone(parts)
		if r, e := Build(parts); e != want || !reflect.DeepEqual(r, api.Ruleset{}) || !slices.Equal(parts, before) {
			t.Errorf("Build with %s: %v, %d; want %d", name, r, e, want)
		}
	}
	all := partsOf(t, loaded(t, sample))
	refuses("no parts", nil, api.ErrState)
	refuses("a part twice", slices.Insert(slices.Clone(all), 3, all[3]), api.ErrOrder)
	refuses("a key twice", slices.Insert(slices.Clone(all), 3, api.Part{Key: all[3].Key}), api.ErrOrder)
	for i := range len(all) - 1 {
		other := slices.Clone(all)
		other[i], other[i+1] = other[i+1], other[i]
		refuses("parts out of order", other, api.ErrOrder)
	}
	refuses("an order before the syntax", []api.Part{{Key: "b", Value: "x"}, {Key: "a", Value: "y"}}, api.ErrOrder)
	refuses("a syntax before the state", []api.Part{{Key: "a", Value: "a;\n"}, {Key: "b", Value: "b"}}, api.ErrSyntax)
	for name, p := range map[string]api.Part{
		"no value":            {Key: "class e"},
		"a blank":             {Key: "class e", Value: "class e ;\n"},
		"no line break":       {Key: "class e", Value: "class e;"},
		"two line breaks":     {Key: "class e", Value: "class e;\n\n"},
		"two entries":         {Key: "class e", Value: "class e;\nclass f;\n"},
		"the entry twice":     {Key: "class e", Value: "class e;\nclass e;\n"},
		"another key":         {Key: "class e", Value: "class f;\n"},
		"a longer key":        {Key: "class e ", Value: "class e;\n"},
		"a shorter key":       {Key: "class ", Value: "class e;\n"},
		"only the word":       {Key: "connect d", Value: "connect d d value 1;\n"},
		"more than the key":   {Key: "connect d d value", Value: "connect d d value 1;\n"},
		"no source":           {Key: "class e", Value: "class e\n"},
		"no entry":            {Key: "#", Value: "# a comment\n"},
		"a comment":           {Key: "class e", Value: "class e; # a comment\n"},
		"a block in one line": {Key: "segment x", Value: "segment x { count 1; repeat 1; connections 0; score 1; }\n"},
		"another number":      {Key: "group x", Value: "group x limit 1.0 credit 0;\n"},
		"a name as a key":     {Key: "tie x", Value: "tie x;\n"},
		"a fault in the word": {Key: "a.b", Value: "a.b;\n"},
		"a long source":       {Key: "x", Value: "x" + strings.Repeat(" a", api.MaxSource/2) + ";\n"},
		"bytes":               {Key: "\x00", Value: "\xff"},
		"an empty key":        {},
	} {
		refuses(name, changed(t, map[string]string{p.Key: "?"}), api.ErrSyntax)
		list := append([]api.Part{p}, all...)
		slices.SortStableFunc(list, func(a, b api.Part) int { return strings.Compare(a.Key, b.Key) })
		refuses(name, list, api.ErrSyntax)
	}
	for name, values := range map[string]map[string]string{
		"no discipline": {"discipline": ""}, "no publish": {"publish": ""}, "no rank": {"rank": ""}, "no segment": {"segment free": "", "segment short": "", "tie": ""},
		"a group less": {"group spin": "", "element B": "element B group spin value 3;\n"}, "a class less": {"class d": ""}, "a criterion less": {"segment short": ""}, "no lower element": {"element 1A": ""},
		"a cycle":               {"element B": "element B group jump value 4 lower A;\n"},
		"a cycle of one":        {"element B": "element B group jump value 4 lower B;\n"},
		"a greater lower value": {"element B": "element B group jump value 4.001;\n"},
		"another entry":         {"frob": "frob;\n"}, "another word before": {"a": "a;\n"}, "an entry without atoms": {"element": "element;\n"}, "a class without a name": {"class": "class;\n"}, "a number as a name": {"class ": "class 5;\n"}, "a number and a name": {"connect  a": "connect 5 a value 1;\n"}, "a string as a name": {"class a b": "class \"a b\";\n"}, "one atom of two": {"connect c": "connect c;\n"}, "a string": {"element x": "element x \"lower\" 1A;\n"}, "only lower": {"element lower": "element lower;\n"}, "a lower number": {"element x": "element x group jump value 1 lower 5;\n"}, "a lower element without one": {"element x": "element x group jump value 1 lower;\n"}, "a block": {"class e": "class e {\n}\n"},
	} {
		list := changed(t, values)
		for key, value := range values {
			if value != "" && !slices.Contains(list, api.Part{Key: key, Value: value}) {
				t.Errorf("%s lacks", key)
			}
		}
		refuses(name, list, api.ErrState)
	}
}

func TestArranged(t *testing.T) {
	for source, want := range map[string]string{
		"": "",
		"tie a; segment b {} segment a {} connect a b; connect a a; element A; class b; class a; group b; group a; rank exact; publish 1; discipline x; zzz; abc;": "discipline publish rank group.a group.b class.a class.b element.A connect.a connect.a segment.a segment.b tie abc zzz",
		"element A; element B; element C;":                                      "element.A element.B element.C",
		"element C; element B; element A;":                                      "element.A element.B element.C",
		"element A lower B; element B lower C; element C;":                      "element.C element.B element.A",
		"element A lower D; element B; element C lower B; element D lower B;":   "element.B element.C element.D element.A",
		"element A lower C; element B; element C; element D;":                   "element.B element.C element.A element.D",
		"element A lower C; element B lower C; element C; element D;":           "element.C element.A element.B element.D",
		"element A lower B; element B lower A; element C lower A; element D;":   "element.D element.A element.B element.C",
		"element A lower Z; element B; element C lower A;":                      "element.B element.A element.C",
		"element B lower A; element C lower X; element A lower A; element D;":   "element.D element.A element.B element.C",
		"element A value lower C; element B; element C;":                        "element.B element.C element.A",
		"element A lower C value; element B; element C;":                        "element.A element.B element.C",
		"element A \"lower\" C; element B; element C;":                          "element.A element.B element.C",
		"element A lower \"C\"; element B; element C;":                          "element.B element.C element.A",
		"element A lower; element B; element;":                                  "element element.A element.B",
		"element lower A; element A;":                                           "element.A element.lower",
		"element lower z; element n; element z;":                                "element.n element.z element.lower",
		"element A lower 5; element 5; element;":                                "element element. element.A",
		"group b lower a; group a; class b lower a; class a; element b; tie x;": "group.a group.b class.a class.b element.b tie",
	} {
		clauses, f := parser.Parse(source)
		if f != (api.Fault{}) {
			t.Fatalf("%q: %v", source, f)
		}
		for range 3 {
			var list []string
			for _, c := range arranged(clauses) {
				key := strings.ReplaceAll(keyOf(c), " ", ".")
				if c.Word == "connect" {
					key = strings.Join(strings.Split(key, ".")[:2], ".")
				}
				list = append(list, key)
			}
			if strings.Join(list, " ") != want {
				t.Errorf("%q is arranged as %q; want %q", source, list, want)
			}
			slices.Reverse(clauses)
		}
	}
}
