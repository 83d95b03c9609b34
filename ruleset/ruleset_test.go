package ruleset

import (
	"math/rand"
	"slices"
	"strconv"
	"strings"
	"testing"

	"salchow/api"
	"salchow/printer"
)

// sample is the source of a ruleset with everything that rulesets can have, in its canonical form.
const sample = `discipline figure season 2026;
publish 2 half_even;
rank published;
group jump limit 7 credit 0.5;
group spin limit 3 credit 0;
class c;
class d;
element 2A group jump value 3.3 class c;
element CSp group spin value 1.1 class d;
element 3A group jump value 8 class c lower 2A;
connect c c value 0.5;
connect c d value 1;
segment free {
  count 7;
  repeat 1;
  connections 1.5;
  require jump least 2 deduct 0.5;
  require spin least 1 deduct 0.25;
  penalty fall value 1 most 9;
  penalty time value 0.3 most 1;
  panel art overall 0 to 10 step 0.25 judges 7 least 5 drop 1 tolerance 0.75;
  panel goe elements - 5 to 5 step 1 judges 9 least 5 drop 2 tolerance 2 scale 0.1;
  score difficulty + goe + max (2 * art, 1.5) - penalties;
}
segment short {
  count 5;
  repeat 2;
  connections 0;
  panel art overall 1 to 10 step 0.5 judges 7 least 5 drop 1 tolerance 0.75;
  score - (difficulty - art) / 3;
}
tie short art penalties free best;
`

func TestSource(t *testing.T) {
	r := loaded(t, sample)
	before := copiedRuleset(r, true)
	if source, e := Source(r); source != sample || e != api.OK || !same(r, before) {
		t.Errorf("%s, %d", source, e)
	}
	r = loaded(t, example)
	source, e := Source(r)
	if again, f := Load(source); e != api.OK || f != (api.Fault{}) || !Equal(again, r) || !printer.Equal(source, example) {
		t.Errorf("%s, %d", source, e)
	}
	// Without ties there is no entry tie.
	r.Ties = []string{}
	source, e = Source(r)
	if e != api.OK || strings.Contains(source, "tie") || !Valid(r) || !strings.HasSuffix(source, "\n}\n") {
		t.Errorf("%s, %d", source, e)
	}
	// The canonical order of entries.
	const mixed = "discipline a season 9999; tie free; segment z { score 1; count 1; repeat 1; connections 0; } rank exact; segment free { score 1; connections 1; repeat 3; count 2; } publish 0.000 down;"
	source, e = Source(loaded(t, mixed))
	if e != api.OK || source != "discipline a season 9999;\npublish 0 down;\nrank exact;\nsegment free {\n  count 2;\n  repeat 3;\n  connections 1;\n  score 1;\n}\nsegment z {\n  count 1;\n  repeat 1;\n  connections 0;\n  score 1;\n}\ntie free;\n" {
		t.Errorf("%s, %d", source, e)
	}
}

// mutations are changes of the ruleset of the sample, after each of which it is not valid.
func mutations() map[string]func(r *api.Ruleset) {
	return map[string]func(r *api.Ruleset){
		"no name": func(r *api.Ruleset) { r.Name = "" }, "a name that is none": func(r *api.Ruleset) { r.Name = "Figure" }, "a long name": func(r *api.Ruleset) { r.Name = "a2345678901234567" }, "a name with a blank": func(r *api.Ruleset) { r.Name = "a b" },
		"no season": func(r *api.Ruleset) { r.Season = 0 }, "a negative season": func(r *api.Ruleset) { r.Season = -1 }, "a great season": func(r *api.Ruleset) { r.Season = 10000 }, "a season that is 2026 in thousandths of 64 bits": func(r *api.Ruleset) { r.Season = 2026 + 1<<61 },
		"negative digits": func(r *api.Ruleset) { r.Digits = -1 }, "four digits": func(r *api.Ruleset) { r.Digits = 4 }, "digits that are 2 in thousandths of 64 bits": func(r *api.Ruleset) { r.Digits = 2 - 1<<61 },
		"no mode": func(r *api.Ruleset) { r.Mode = 0 }, "another mode": func(r *api.Ruleset) { r.Mode = 4 }, "a negative mode": func(r *api.Ruleset) { r.Mode = -1 },
		"a group that is none": func(r *api.Ruleset) { r.Catalog.Groups[0].Limit = 0 }, "groups out of order": func(r *api.Ruleset) { slices.Reverse(r.Catalog.Groups) }, "no groups": func(r *api.Ruleset) { r.Catalog.Groups = nil }, "no group of a requirement": func(r *api.Ruleset) { r.Catalog.Groups, r.Catalog.Elements = r.Catalog.Groups[:1], nil }, "no classes": func(r *api.Ruleset) { r.Catalog.Classes = nil }, "an element twice": func(r *api.Ruleset) { r.Catalog.Elements = append(r.Catalog.Elements, r.Catalog.Elements[2]) }, "a chain without an end": func(r *api.Ruleset) { r.Catalog.Elements[0].Lower, r.Catalog.Elements[0].Value = "3A", 8000 }, "a bonus that is too great": func(r *api.Ruleset) { r.Catalog.Connects[0].Value = api.MaxMilli + 1 },
		"no segments": func(r *api.Ruleset) { r.Segments, r.Ties = nil, nil }, "segments out of order": func(r *api.Ruleset) { slices.Reverse(r.Segments) }, "a segment twice": func(r *api.Ruleset) { r.Segments = append(r.Segments, r.Segments[1]) }, "too many segments": func(r *api.Ruleset) { r.Segments = append(r.Segments, eight()[:7]...) },
		"a segment that is none": func(r *api.Ruleset) { r.Segments[1].Count = 31 }, "a segment without a name": func(r *api.Ruleset) { r.Segments[0].Name, r.Ties = "", nil }, "no formula": func(r *api.Ruleset) { r.Segments[0].Score = api.Expr{} }, "a formula with another variable": func(r *api.Ruleset) { r.Segments[1].Score = variable("goe") },
		"a reserved segment": func(r *api.Ruleset) { r.Segments[1].Name, r.Ties = "total", nil }, "another reserved segment": func(r *api.Ruleset) { r.Segments[0].Name, r.Ties = "best", nil }, "a segment with the name of its panel": func(r *api.Ruleset) { r.Segments[0].Name, r.Ties = "goe", nil }, "a segment with the name of a panel": func(r *api.Ruleset) { r.Segments[1].Name, r.Ties = "goe", nil }, "a panel with the name of a segment before": func(r *api.Ruleset) {
			r.Segments[1].Panels[0].Name, r.Segments[1].Score = "free", variable("difficulty")
		}, "a panel with the name of a segment behind": func(r *api.Ruleset) {
			r.Segments[0].Panels[1].Name, r.Segments[0].Score = "short", variable("difficulty")
		},
		"no criterion": func(r *api.Ruleset) { r.Ties[2] = "fall" }, "an empty criterion": func(r *api.Ruleset) { r.Ties[0] = "" }, "the criterion total": func(r *api.Ruleset) { r.Ties[1] = "total" }, "a criterion twice": func(r *api.Ruleset) { r.Ties[4] = "short" }, "a criterion that is no word": func(r *api.Ruleset) { r.Ties[4] = "best difficulty" }, "too many criteria": func(r *api.Ruleset) {
			r.Segments, r.Ties = eight(), strings.Fields("s0 s1 s2 s3 s4 s5 s6 s7 best difficulty penalties p0 p1")
		},
	}
}

// eight returns eight segments, the first one with two panels.
func eight() []api.Segment {
	var list []api.Segment
	for i := range 8 {
		list = append(list, api.Segment{Name: "s" + strconv.Itoa(i), Count: 1, Repeat: 1, Score: variable("difficulty")})
	}
	list[0].Panels = []api.Panel{{Name: "p0", Kind: api.PanelOverall, Step: 1, Judges: 1, Least: 1}, {Name: "p1", Kind: api.PanelOverall, Step: 1, Judges: 1, Least: 1}}
	return list
}

func TestValidOfChanges(t *testing.T) {
	if !Valid(loaded(t, sample)) {
		t.Fatal("the sample is not valid")
	}
	for name, change := range mutations() {
		r := loaded(t, sample)
		change(&r)
		before := copiedRuleset(r, true)
		if Valid(r) || !same(r, before) {
			t.Errorf("%s: valid", name)
		}
		if source, e := Source(r); source != "" || e != api.ErrArgument || !same(r, before) {
			t.Errorf("Source with %s: %q, %d", name, source, e)
		}
	}
	if source, e := Source(api.Ruleset{}); source != "" || e != api.ErrArgument || Valid(api.Ruleset{}) {
		t.Errorf("Source of nothing: %q, %d", source, e)
	}
}

func TestValidRulesets(t *testing.T) {
	for name, change := range map[string]func(r *api.Ruleset){
		"the least numbers":    func(r *api.Ruleset) { r.Name, r.Season, r.Digits, r.Mode = "a", 1, 0, api.Down },
		"the greatest numbers": func(r *api.Ruleset) { r.Name, r.Season, r.Digits, r.Mode = "a234567890123456", 9999, 3, api.HalfUp },
		"exact":                func(r *api.Ruleset) { r.Exact = true },
		"no catalog":           func(r *api.Ruleset) { r.Catalog, r.Segments[0].Requires = api.Catalog{}, nil },
		"no ties":              func(r *api.Ruleset) { r.Ties = nil },
		"empty lists":          func(r *api.Ruleset) { r.Ties, r.Segments[1].Requires = []string{}, []api.Require{} },
		"other ties":           func(r *api.Ruleset) { r.Ties = strings.Fields("goe difficulty best art short free penalties") },
		"one segment":          func(r *api.Ruleset) { r.Segments, r.Ties = r.Segments[:1], []string{"goe"} },
		"eight segments":       func(r *api.Ruleset) { r.Segments, r.Ties = eight(), []string{"p1", "s7"} },
		"twelve ties": func(r *api.Ruleset) {
			r.Segments, r.Ties = eight(), strings.Fields("p0 s0 s1 s2 s3 s4 s5 s6 s7 best difficulty penalties")
		},
		"other offsets": func(r *api.Ruleset) { r.Segments[0].Score.At, r.Segments[1].Score.Kids[0].At = -5, 1<<63-1 },
	} {
		r := loaded(t, sample)
		change(&r)
		if !Valid(r) {
			t.Errorf("%s: not valid", name)
		}
		source, e := Source(r)
		if again, f := Load(source); e != api.OK || f != (api.Fault{}) || !alike(again, r) || !Equal(again, r) || !Equal(r, again) {
			t.Errorf("%s: %s, %d, %v", name, source, e, f)
		}
	}
}

// wide returns a ruleset with so many elements, whose canonical source has so many bytes more than with the shortest values.
func wide(t *testing.T, elements, more int) api.Ruleset {
	t.Helper()
	values := []int64{1000, 10000, 100000, 1000000, 1001, 10001, 100001} // of one to seven bytes
	var r api.Ruleset
	r.Name, r.Season, r.Mode, r.Segments = "a", 1, api.Down, eight()
	r.Catalog.Groups = []api.Group{{Name: "group_7890123456", Limit: 1}}
	for i := range api.MaxClasses {
		r.Catalog.Classes = append(r.Catalog.Classes, "class_78901234"+strconv.Itoa(10+i))
	}
	for _, first := range r.Catalog.Classes {
		for _, second := range r.Catalog.Classes {
			r.Catalog.Connects = append(r.Catalog.Connects, api.Connect{First: first, Second: second, Value: 999999})
		}
	}
	for i := range elements {
		longer := min(more, 6)
		more -= longer
		r.Catalog.Elements = append(r.Catalog.Elements, api.Element{Code: "ELEM" + strconv.Itoa(1000+i), Group: "group_7890123456", Value: values[longer], Class: "class_7890123410"})
	}
	for i := range r.Segments {
		s := &r.Segments[i]
		s.Panels = nil
		for k := range api.MaxPanels {
			s.Panels = append(s.Panels, api.Panel{Name: "panel_345678901" + strconv.Itoa(k), Kind: api.PanelElements, Lo: -999999, Hi: 999999, Step: 1, Judges: 15, Least: 15, Drop: 15})
		}
		for k := range api.MaxPenalties {
			s.Penalties = append(s.Penalties, api.Penalty{Name: "penalty_567890" + strconv.Itoa(10+k), Value: 999999, Most: 30})
		}
		for range 127 {
			s.Score = sum(s.Score, variable("panel_3456789010"))
		}
	}
	return r
}

func TestLimitOfSource(t *testing.T) {
	length := func(elements int) int {
		source, e := Source(wide(t, elements, 0))
		if e != api.OK {
			t.Fatalf("%d elements: %d", elements, e)
		}
		return len(source)
	}
	least := length(0)
	line := length(1) - least
	elements, more := (api.MaxSource-least)/line, (api.MaxSource-least)%line
	if elements >= api.MaxElements || length(elements) != api.MaxSource-more {
		t.Fatalf("%d elements, %d bytes more", elements, more)
	}
	greatest := wide(t, elements, more)
	source, e := Source(greatest)
	if again, f := Load(source); e != api.OK || len(source) != api.MaxSource || f != (api.Fault{}) || !Equal(again, greatest) {
		t.Errorf("%d bytes, %d, %v", len(source), e, f)
	}
	for _, r := range []api.Ruleset{wide(t, elements, more+1), wide(t, elements+1, 0), wide(t, api.MaxElements, 0)} {
		if source, e := Source(r); source != "" || e != api.ErrLimit || !Valid(r) {
			t.Errorf("%d bytes, %d", len(source), e)
		}
	}
	// That it is not valid comes first.
	r := wide(t, api.MaxElements, 0)
	r.Digits = 4
	if source, e := Source(r); source != "" || e != api.ErrArgument {
		t.Errorf("%d bytes, %d", len(source), e)
	}
	// A list of entries may be longer than a source.
	list := slices.Concat(parsed(t, sample[:strings.Index(sample, "group")]), elementsOf(t), parsed(t, named("free")))
	if r, f := Build(list); f != (api.Fault{}) || len(r.Catalog.Elements) != api.MaxElements || !Valid(r) {
		t.Errorf("%v", f)
	}
}

// elementsOf returns the entries of many elements and their group, whose source would have blanks beyond all limits.
func elementsOf(t *testing.T) []api.Clause {
	list := parsed(t, "group a limit 1 credit 0;")
	for i := range api.MaxElements {
		list = append(list, parsed(t, strings.Repeat(" ", 1000)+"element E"+strconv.Itoa(i)+" group a value 1;")...)
	}
	return list
}

func TestEqual(t *testing.T) {
	changes := map[string]func(r *api.Ruleset){
		"the name": func(r *api.Ruleset) { r.Name = "b" }, "the season": func(r *api.Ruleset) { r.Season++ }, "the digits": func(r *api.Ruleset) { r.Digits-- }, "the mode": func(r *api.Ruleset) { r.Mode = 7 }, "the ranking": func(r *api.Ruleset) { r.Exact = !r.Exact },
		"a group": func(r *api.Ruleset) { r.Catalog.Groups[0].Name = "x" }, "a limit": func(r *api.Ruleset) { r.Catalog.Groups[1].Limit++ }, "a credit": func(r *api.Ruleset) { r.Catalog.Groups[1].Credit = -1 }, "one group less": func(r *api.Ruleset) { r.Catalog.Groups = r.Catalog.Groups[:1] },
		"a class": func(r *api.Ruleset) { r.Catalog.Classes[1] = "" }, "one class more": func(r *api.Ruleset) { r.Catalog.Classes = append(r.Catalog.Classes, "") },
		"a code": func(r *api.Ruleset) { r.Catalog.Elements[2].Code = "2a" }, "a value": func(r *api.Ruleset) { r.Catalog.Elements[0].Value++ }, "a lower element": func(r *api.Ruleset) { r.Catalog.Elements[0].Lower = "3A" }, "the class of an element": func(r *api.Ruleset) { r.Catalog.Elements[1].Class = "" }, "the group of an element": func(r *api.Ruleset) { r.Catalog.Elements[1].Group = "" }, "elements in another order": func(r *api.Ruleset) { slices.Reverse(r.Catalog.Elements) },
		"a first class": func(r *api.Ruleset) { r.Catalog.Connects[0].First = "d" }, "a second class": func(r *api.Ruleset) { r.Catalog.Connects[0].Second = "d" }, "a bonus": func(r *api.Ruleset) { r.Catalog.Connects[1].Value++ }, "no connects": func(r *api.Ruleset) { r.Catalog.Connects = nil },
		"a criterion": func(r *api.Ruleset) { r.Ties[4] = "x" }, "criteria in another order": func(r *api.Ruleset) { slices.Reverse(r.Ties) }, "no criteria": func(r *api.Ruleset) { r.Ties = nil }, "one criterion more": func(r *api.Ruleset) { r.Ties = append(r.Ties, "") },
		"a segment": func(r *api.Ruleset) { r.Segments[1].Name = "x" }, "one segment less": func(r *api.Ruleset) { r.Segments = r.Segments[1:] }, "segments in another order": func(r *api.Ruleset) { slices.Reverse(r.Segments) }, "a segment twice": func(r *api.Ruleset) { r.Segments = append(r.Segments, r.Segments[0]) },
		"a count": func(r *api.Ruleset) { r.Segments[0].Count++ }, "repetitions": func(r *api.Ruleset) { r.Segments[1].Repeat++ }, "connections": func(r *api.Ruleset) { r.Segments[0].Connections = -5 },
		"a requirement": func(r *api.Ruleset) { r.Segments[0].Requires[1].Group = "" }, "a least number": func(r *api.Ruleset) { r.Segments[0].Requires[0].Least++ }, "a deduction": func(r *api.Ruleset) { r.Segments[0].Requires[0].Deduct++ }, "no requirements": func(r *api.Ruleset) { r.Segments[0].Requires = nil },
		"a penalty": func(r *api.Ruleset) { r.Segments[0].Penalties[0].Name = "" }, "the value of a penalty": func(r *api.Ruleset) { r.Segments[0].Penalties[1].Value++ }, "a greatest number": func(r *api.Ruleset) { r.Segments[0].Penalties[1].Most++ }, "one penalty more": func(r *api.Ruleset) { r.Segments[1].Penalties = []api.Penalty{{}} },
		"a panel": func(r *api.Ruleset) { r.Segments[1].Panels[0].Name = "goe" }, "a kind": func(r *api.Ruleset) { r.Segments[1].Panels[0].Kind++ }, "a least mark": func(r *api.Ruleset) { r.Segments[0].Panels[0].Lo-- }, "a greatest mark": func(r *api.Ruleset) { r.Segments[0].Panels[1].Hi++ }, "a step": func(r *api.Ruleset) { r.Segments[0].Panels[1].Step++ }, "judges": func(r *api.Ruleset) { r.Segments[0].Panels[1].Judges++ }, "least judges": func(r *api.Ruleset) { r.Segments[0].Panels[1].Least++ }, "dropped marks": func(r *api.Ruleset) { r.Segments[0].Panels[1].Drop++ }, "a tolerance": func(r *api.Ruleset) { r.Segments[0].Panels[1].Tolerance++ }, "a scale": func(r *api.Ruleset) { r.Segments[1].Panels[0].Scale++ }, "no panels": func(r *api.Ruleset) { r.Segments[1].Panels = nil },
		"an operation": func(r *api.Ruleset) { r.Segments[0].Score.Op = 99 }, "a variable": func(r *api.Ruleset) { r.Segments[0].Score.Kids[1].Name = "x" }, "a number": func(r *api.Ruleset) { r.Segments[1].Score.Kids[1].N++ }, "no operands": func(r *api.Ruleset) { r.Segments[1].Score.Kids = nil }, "operands in another order": func(r *api.Ruleset) { slices.Reverse(r.Segments[0].Score.Kids) },
	}
	for name, change := range changes {
		r, other := loaded(t, sample), loaded(t, sample)
		change(&other)
		before := copiedRuleset(other, true)
		if Equal(r, other) || Equal(other, r) || !Equal(other, other) || !Equal(other, copiedRuleset(other, false)) || !same(other, before) {
			t.Errorf("Equal is wrong about %s", name)
		}
	}
	r, other := loaded(t, sample), loaded(t, strings.ReplaceAll(sample, " ", "  "))
	if same(r, other) || !Equal(r, other) || !Equal(r, r) || !Equal(api.Ruleset{}, api.Ruleset{}) || Equal(r, api.Ruleset{}) || Equal(api.Ruleset{}, r) {
		t.Error("Equal")
	}
	empty := api.Ruleset{Catalog: api.Catalog{Groups: []api.Group{}, Classes: []string{}, Elements: []api.Element{}, Connects: []api.Connect{}}, Ties: []string{}, Segments: []api.Segment{}}
	bare := api.Ruleset{Segments: []api.Segment{{}}}
	lists := api.Ruleset{Segments: []api.Segment{{Requires: []api.Require{}, Penalties: []api.Penalty{}, Panels: []api.Panel{}, Score: api.Expr{Kids: []api.Expr{}, At: 3}}}}
	if !Equal(empty, api.Ruleset{}) || !Equal(api.Ruleset{}, empty) || !Equal(lists, bare) || !Equal(bare, lists) || Equal(bare, empty) {
		t.Error("Equal of empty lists")
	}
}

func TestFind(t *testing.T) {
	r := loaded(t, sample)
	for i, name := range []string{"free", "short"} {
		s, e := Find(r, name)
		if want := copiedSegment(r.Segments[i], true); e != api.OK || !same(api.Ruleset{Segments: []api.Segment{s}}, api.Ruleset{Segments: []api.Segment{want}}) {
			t.Errorf("Find %s: %v, %d", name, s, e)
		}
	}
	for _, name := range []string{"", "art", "difficulty", "Free", "fre", "free ", "figure", "jump"} {
		if s, e := Find(r, name); e != api.ErrName || !same(api.Ruleset{Segments: []api.Segment{s}}, api.Ruleset{Segments: []api.Segment{{}}}) {
			t.Errorf("Find %q: %v, %d", name, s, e)
		}
	}
	// The first one counts, in any ruleset.
	odd := api.Ruleset{Segments: []api.Segment{{Name: "b", Count: 1}, {Name: "a", Count: 2}, {Name: "b", Count: 3}, {Count: 4}, {Count: 5}, {Name: "A B", Count: -6}, {Name: "a", Count: 7}}}
	for name, want := range map[string]int{"b": 1, "a": 2, "": 4, "A B": -6} {
		if s, e := Find(odd, name); s.Count != want || s.Name != name || e != api.OK {
			t.Errorf("Find %q: %v, %d", name, s, e)
		}
	}
	if _, e := Find(api.Ruleset{}, ""); e != api.ErrName {
		t.Errorf("Find in nothing: %d", e)
	}
}

func TestFoundSegmentsAreCopies(t *testing.T) {
	r := loaded(t, sample)
	before := copiedRuleset(r, true)
	s, _ := Find(r, "free")
	s.Requires[0].Least, s.Penalties[1].Most, s.Panels[0].Judges, s.Count = 99, 99, 99, 99
	s.Score.Kids[1].Name, s.Score.Kids[0].Kids[1].At = "x", 99
	s.Score.Kids[0].Kids[0].Kids[0].Name, s.Score.Kids[0].Kids[1].Kids[0].Kids[0].N = "x", 99
	_ = append(s.Requires[:1], api.Require{Least: 98})
	_ = append(s.Score.Kids[:1], api.Expr{N: 98})
	if !same(r, before) {
		t.Errorf("%v", r)
	}
	// The rulesets that Load returns share nothing with the entries, or with each other.
	list := parsed(t, sample)
	built, _ := Build(list)
	other, _ := Build(list)
	for i := range list {
		list[i].Word = "x"
		for k := range list[i].Atoms {
			list[i].Atoms[k] = api.Token{}
		}
		for _, kid := range list[i].Kids {
			for k := range kid.Atoms {
				kid.Atoms[k] = api.Token{}
			}
		}
	}
	other.Ties[0], other.Catalog.Groups[0].Name, other.Segments[0].Panels[0].Name, other.Segments[0].Score.Kids[0].Op = "x", "x", "x", 99
	if !same(built, before) {
		t.Errorf("%v", built)
	}
}

func TestCriterion(t *testing.T) {
	r := loaded(t, sample)
	for name, want := range map[string]int{
		"free": Segment, "short": Segment, "art": Panel, "goe": Panel, "difficulty": Difficulty, "penalties": Penalties, "best": Best,
		"total": None, "": None, "figure": None, "jump": None, "c": None, "2A": None, "fall": None, "Free": None, "ar": None, "best ": None, "Best": None, "beam": None,
	} {
		if k := Criterion(r, name); k != want {
			t.Errorf("Criterion %q: %d; want %d", name, k, want)
		}
	}
	for name, want := range map[string]int{"difficulty": Difficulty, "penalties": Penalties, "best": Best, "total": None, "": None} {
		if k := Criterion(api.Ruleset{}, name); k != want {
			t.Errorf("Criterion %q of nothing: %d; want %d", name, k, want)
		}
	}
	if None != 0 || Segment != 1 || Panel != 2 || Difficulty != 3 || Penalties != 4 || Best != 5 {
		t.Error("the kinds of criteria")
	}
	// Of several kinds the least one counts.
	panels := func(names ...string) []api.Panel {
		var list []api.Panel
		for _, name := range names {
			list = append(list, api.Panel{Name: name})
		}
		return list
	}
	odd := api.Ruleset{Segments: []api.Segment{
		{Name: "a", Panels: panels("a", "b", "penalties", "")}, {Name: "difficulty", Panels: panels("best", "c", "c")}, {Name: "c", Panels: panels("difficulty", "total")}, {Name: "A B"}, {Name: "a"},
	}}
	for name, want := range map[string]int{"a": Segment, "b": Panel, "c": Segment, "penalties": Panel, "difficulty": Segment, "best": Panel, "total": Panel, "": Panel, "A B": Segment, "d": None} {
		if k := Criterion(odd, name); k != want {
			t.Errorf("Criterion %q of a strange ruleset: %d; want %d", name, k, want)
		}
	}
}

func TestStrangeArguments(t *testing.T) {
	// The results of Build are unspecified, but there are some.
	random := rand.New(rand.NewSource(82))
	words := strings.Fields("discipline publish rank group class element connect tie segment season down exact art best")
	token := func() api.Token {
		return api.Token{Kind: random.Intn(7) - 1, Text: append(words, "", ";", "{", "-")[random.Intn(len(words)+4)], N: []int64{0, 1000, -1000, -1 << 63, 1<<63 - 1}[random.Intn(5)], At: random.Intn(3) - 1}
	}
	list := parsed(t, sample)
	for range 20000 {
		strange := copied(list[random.Intn(2)*random.Intn(3):])
		for range 1 + random.Intn(3) {
			k := &strange[random.Intn(len(strange))]
			switch random.Intn(6) {
			case 0:
				k.Word = words[random.Intn(len(words))]
			case 1:
				k.Atoms = append(k.Atoms, token())
			case 2:
				k.Atoms = k.Atoms[:random.Intn(len(k.Atoms)+1)]
			case 3:
				k.Block, k.Kids = !k.Block, append(k.Kids, api.Clause{Word: words[random.Intn(len(words))], Kids: []api.Clause{{}}})
			default:
				if len(k.Atoms) > 0 {
					k.Atoms[random.Intn(len(k.Atoms))] = token()
				}
			}
		}
		if r, f := Build(strange); f.Code != api.OK && !same(r, api.Ruleset{}) {
			t.Errorf("%v: %v, %v", strange, r, f)
		}
	}
	deep := variable("a")
	for range 1 << 16 {
		deep = api.Expr{Op: api.ExprNeg, Kids: []api.Expr{deep}}
	}
	r := loaded(t, sample)
	r.Segments[1].Score = deep
	if s, e := Find(r, "short"); e != api.OK || s.Score.Op != api.ExprNeg || !Equal(r, r) || Valid(r) {
		t.Errorf("Find with a deep formula: %d", e)
	}
	huge := api.Ruleset{Name: strings.Repeat("a", 1<<20), Ties: make([]string, 1<<16), Segments: make([]api.Segment, 1<<16), Catalog: api.Catalog{Elements: make([]api.Element, 1<<16)}}
	if source, e := Source(huge); source != "" || e != api.ErrArgument || Valid(huge) || Criterion(huge, "b") != None || !Equal(huge, huge) {
		t.Errorf("Source of a huge ruleset: %d", e)
	}
	huge.Catalog, huge.Segments = api.Catalog{}, slices.Repeat(eight()[1:2], 1<<16)
	if Valid(huge) {
		t.Error("a huge ruleset is valid")
	}
}
