package season

import (
	"reflect"
	"slices"
	"strconv"
	"strings"
	"testing"

	"salchow/api"
	"salchow/ruleset"
)

// amend returns an amendment.
func amend(key, before, after string) api.Amend {
	return api.Amend{Key: key, Old: before, New: after}
}

// diff returns the amendments between two rulesets.
func diff(t *testing.T, a, b api.Ruleset) []api.Amend {
	t.Helper()
	list, e := Diff(a, b)
	if e != api.OK {
		t.Fatalf("Diff: %d", e)
	}
	return list
}

// replaced returns the ruleset of the sample after replacements of its text.
func replaced(t *testing.T, pairs ...string) api.Ruleset {
	t.Helper()
	return loaded(t, strings.NewReplacer(pairs...).Replace(sample))
}

func TestDiff(t *testing.T) {
	a := loaded(t, sample)
	for _, c := range []struct {
		pairs []string
		want  []api.Amend
	}{
		{nil, nil},
		{[]string{"2026", "2027"}, []api.Amend{amend("discipline", "discipline figure season 2026;\n", "discipline figure season 2027;\n")}},
		{[]string{"value 3;", "value 3.5;", "class c;\n", "class c;\nclass e;\n"}, []api.Amend{amend("class e", "", "class e;\n"), amend("element B", "element B group jump value 3;\n", "element B group jump value 3.5;\n")}},
		{[]string{"connect c c value 0.5;\n", "", "tie short art best;\n", ""}, []api.Amend{amend("connect c c", "connect c c value 0.5;\n", ""), amend("tie", "tie short art best;\n", "")}},
		{[]string{"  count 5;\n  repeat 2;", "  repeat 2;\n  count 5;", "tie short art best", "tie best short art"}, []api.Amend{amend("tie", "tie short art best;\n", "tie best short art;\n")}},
		{[]string{"count 5", "count 6"}, []api.Amend{amend("segment short", "segment short {\n  count 5;\n  repeat 2;\n  connections 0;\n  score difficulty;\n}\n", "segment short {\n  count 6;\n  repeat 2;\n  connections 0;\n  score difficulty;\n}\n")}},
		{[]string{"connect c d", "connect d c"}, []api.Amend{amend("connect c d", "connect c d value 1;\n", ""), amend("connect d c", "", "connect d c value 1;\n")}},
		{[]string{"published", "exact", "2 half_even", "0 down"}, []api.Amend{amend("publish", "publish 2 half_even;\n", "publish 0 down;\n"), amend("rank", "rank published;\n", "rank exact;\n")}},
		// The name of a discipline may change, and what is written in other words is the same.
		{[]string{"figure", "other", "value 3;", "value 3.000;", "score difficulty;", "score (difficulty);"}, []api.Amend{amend("discipline", "discipline figure season 2026;\n", "discipline other season 2026;\n")}},
	} {
		b := replaced(t, c.pairs...)
		before, after := copiedRuleset(a), copiedRuleset(b)
		list := diff(t, a, b)
		if !slices.Equal(list, c.want) || !reflect.DeepEqual(a, before) || !reflect.DeepEqual(b, after) {
			t.Errorf("Diff with %q: %q", c.pairs, list)
		}
		copied := slices.Clone(list)
		if r, e := Apply(a, list); e != api.OK || !ruleset.Equal(r, b) || !slices.Equal(list, copied) || !reflect.DeepEqual(a, before) {
			t.Errorf("Apply with %q: %d", c.pairs, e)
		}
		back := Invert(list)
		if r, e := Apply(b, back); e != api.OK || !ruleset.Equal(r, a) || !slices.Equal(back, diff(t, b, a)) || !slices.Equal(list, copied) {
			t.Errorf("Apply of the inverse with %q: %d", c.pairs, e)
		}
	}
}

// long returns a valid ruleset whose canonical source has more than MaxSource bytes.
func long(t *testing.T) api.Ruleset {
	t.Helper()
	r := loaded(t, sample)
	group := "z" + strings.Repeat("_", 15)
	r.Catalog = api.Catalog{Groups: append(r.Catalog.Groups, api.Group{Name: group, Limit: 1}), Classes: r.Catalog.Classes}
	for i := range 10 {
		r.Catalog.Classes = append(r.Catalog.Classes, "e"+strings.Repeat("_", 14)+strconv.Itoa(i))
	}
	classes := r.Catalog.Classes[2:]
	for _, first := range classes {
		for _, second := range classes {
			r.Catalog.Connects = append(r.Catalog.Connects, api.Connect{First: first, Second: second, Value: 999999})
		}
	}
	for i := range api.MaxElements {
		r.Catalog.Elements = append(r.Catalog.Elements, api.Element{Code: "E" + strconv.Itoa(1000000+i), Group: group, Value: 999999, Class: classes[0]})
		if i > 0 {
			r.Catalog.Elements[i].Lower = "E1000000"
		}
	}
	for i := range 6 {
		s := copiedRuleset(r).Segments[1]
		s.Name = "t" + strconv.Itoa(i)
		for p := range api.MaxPenalties {
			s.Penalties = append(s.Penalties, api.Penalty{Name: "p" + strings.Repeat("_", 13) + strconv.Itoa(10+p), Value: 999999, Most: 30})
		}
		for p := range api.MaxPanels {
			s.Panels = append(s.Panels, api.Panel{Name: "q" + strings.Repeat("_", 14) + strconv.Itoa(p), Kind: api.PanelElements, Lo: -999999, Hi: 999999, Step: 1, Judges: 15, Least: 15, Drop: 15, Tolerance: 999999, Scale: 999999})
		}
		for range 127 {
			s.Score = api.Expr{Op: api.ExprAdd, Kids: []api.Expr{s.Score, {Op: api.ExprVar, Name: "q" + strings.Repeat("_", 14) + "0"}}}
		}
		r.Segments = append(r.Segments, s)
	}
	if !ruleset.Valid(r) {
		t.Fatal("the long ruleset is not valid")
	}
	return r
}

func TestErrorsOfRulesets(t *testing.T) {
	valid, tooLong := loaded(t, sample), long(t)
	list := diff(t, valid, replaced(t, "2026", "2027"))
	disorderly := []api.Amend{{Key: "b", New: "x"}, {Key: "a", New: "x"}}
	for want, r := range map[api.Errno]api.Ruleset{api.ErrArgument: {}, api.ErrLimit: tooLong} {
		before := copiedRuleset(r)
		if parts, e := Parts(r); len(parts) != 0 || e != want {
			t.Errorf("Parts: %d of them, %d; want %d", len(parts), e, want)
		}
		if changes, e := Diff(r, valid); len(changes) != 0 || e != want {
			t.Errorf("Diff of it: %d of them, %d; want %d", len(changes), e, want)
		}
		if changes, e := Diff(valid, r); len(changes) != 0 || e != want {
			t.Errorf("Diff to it: %d of them, %d; want %d", len(changes), e, want)
		}
		for _, amends := range [][]api.Amend{nil, list, Invert(list), disorderly} {
			if result, e := Apply(r, amends); !reflect.DeepEqual(result, api.Ruleset{}) || e != want {
				t.Errorf("Apply: %d; want %d", e, want)
			}
		}
		if !reflect.DeepEqual(r, before) {
			t.Error("changed")
		}
	}
	if _, e := Diff(tooLong, api.Ruleset{}); e != api.ErrLimit {
		t.Errorf("Diff of two errors: %d", e)
	}
	if _, e := Diff(api.Ruleset{}, tooLong); e != api.ErrArgument {
		t.Errorf("Diff of two errors: %d", e)
	}
}

func TestApply(t *testing.T) {
	a := loaded(t, sample)
	valueOf := map[string]string{}
	for _, p := range partsOf(t, a) {
		valueOf[p.Key] = p.Value
	}
	remove := func(key string) api.Amend { return api.Amend{Key: key, Old: valueOf[key]} }
	change := func(key, value string) api.Amend { return api.Amend{Key: key, Old: valueOf[key], New: value} }
	for name, c := range map[string]struct {
		list []api.Amend
		want api.Errno
	}{
		"nothing":                            {nil, api.OK},
		"a removal":                          {[]api.Amend{remove("tie")}, api.OK},
		"an addition":                        {[]api.Amend{change("class e", "class e;\n")}, api.OK},
		"an addition before":                 {[]api.Amend{change("class a", "class a;\n"), change("tie", "tie short;\n")}, api.OK},
		"a chain that is turned":             {[]api.Amend{change("element 1A", "element 1A group jump value 8 class c lower 3A;\n"), change("element 3A", "element 3A group jump value 8 class c;\n")}, api.OK},
		"an order in two steps":              {[]api.Amend{change("tie", "tie best;\n"), change("class e", "class e;\n")}, api.ErrOrder},
		"a key twice":                        {[]api.Amend{change("tie", "tie best;\n"), change("tie", "tie short;\n")}, api.ErrOrder},
		"a key in two steps":                 {[]api.Amend{change("tie", "tie best;\n"), {Key: "tie", Old: "tie best;\n"}}, api.ErrOrder},
		"no change":                          {[]api.Amend{change("tie", valueOf["tie"])}, api.ErrOrder},
		"no change behind others":            {[]api.Amend{change("class e", "class e;\n"), {Key: "z"}}, api.ErrOrder},
		"no change of nothing":               {[]api.Amend{{Key: ""}}, api.ErrOrder},
		"an order before a conflict":         {[]api.Amend{{Key: "tie", Old: "x"}, {Key: "rank", Old: "x"}}, api.ErrOrder},
		"another old value":                  {[]api.Amend{{Key: "tie", Old: "tie best;\n"}}, api.ErrConflict},
		"an old value in other words":        {[]api.Amend{{Key: "tie", Old: "tie short art best;"}}, api.ErrConflict},
		"an old value of nothing":            {[]api.Amend{{Key: "class e", Old: "class e;\n"}}, api.ErrConflict},
		"an addition of what there is":       {[]api.Amend{{Key: "class c", New: "class c;\n"}}, api.ErrConflict},
		"an addition of another value":       {[]api.Amend{{Key: "rank", New: "rank exact;\n"}}, api.ErrConflict},
		"a conflict behind others":           {[]api.Amend{remove("tie"), {Key: "u", Old: "u;\n"}}, api.ErrConflict},
		"a conflict before the syntax":       {[]api.Amend{{Key: "a", New: "x"}, {Key: "tie", New: "x"}}, api.ErrConflict},
		"a value that is no entry":           {[]api.Amend{change("tie", "x")}, api.ErrSyntax},
		"a value that is not canonical":      {[]api.Amend{change("class e", "class e;")}, api.ErrSyntax},
		"a value with another key":           {[]api.Amend{change("class e", "class f;\n")}, api.ErrSyntax},
		"a value with the key of another":    {[]api.Amend{change("class e", "class d;\n")}, api.ErrSyntax},
		"two values":                         {[]api.Amend{change("class e", "class e;\nclass f;\n")}, api.ErrSyntax},
		"a syntax before the state":          {[]api.Amend{change("class e", "class e; "), remove("rank")}, api.ErrSyntax},
		"nothing remains of rank":            {[]api.Amend{remove("rank")}, api.ErrState},
		"a class that is used":               {[]api.Amend{remove("class c")}, api.ErrState},
		"an element that is used":            {[]api.Amend{remove("element B")}, api.ErrState},
		"a criterion that is used":           {[]api.Amend{remove("segment short")}, api.ErrState},
		"an entry that is none of a ruleset": {[]api.Amend{change("frob", "frob;\n")}, api.ErrState},
		"a range":                            {[]api.Amend{change("publish", "publish 4 down;\n")}, api.ErrState},
	} {
		before, list := copiedRuleset(a), slices.Clone(c.list)
		r, e := Apply(a, c.list)
		if e != c.want || !reflect.DeepEqual(a, before) || !slices.Equal(list, c.list) || e != api.OK && !reflect.DeepEqual(r, api.Ruleset{}) {
			t.Errorf("Apply of %s: %d; want %d", name, e, c.want)
		}
		if c.want == api.OK && !slices.Equal(diff(t, a, r), c.list) {
			t.Errorf("Apply of %s: %q", name, diff(t, a, r))
		}
	}
	var all []api.Amend
	for _, key := range keys {
		all = append(all, remove(key))
	}
	if _, e := Apply(a, all); e != api.ErrState {
		t.Errorf("Apply of the removal of everything: %d", e)
	}
	// The result shares no memory with the argument.
	r, _ := Apply(a, nil)
	clear(r.Catalog.Elements)
	clear(r.Ties)
	r.Segments[0].Score.Kids[0] = api.Expr{}
	if !ruleset.Equal(a, loaded(t, sample)) {
		t.Error("the result shares memory with the argument")
	}
}

func TestInvert(t *testing.T) {
	list := []api.Amend{amend("a", "", "x"), amend("b", "x", ""), amend("c", "x", "y")}
	copied := slices.Clone(list)
	inverse := Invert(list)
	if !slices.Equal(inverse, []api.Amend{amend("a", "x", ""), amend("b", "", "x"), amend("c", "y", "x")}) || !slices.Equal(list, copied) {
		t.Errorf("Invert: %q", inverse)
	}
	clear(inverse)
	if !slices.Equal(list, copied) || len(Invert(nil)) != 0 {
		t.Errorf("Invert changes %q", list)
	}
	Invert([]api.Amend{amend("b", "x", "x"), amend("a", "\xff", "")})
}

func TestCompose(t *testing.T) {
	for name, c := range map[string]struct {
		first, second, want []api.Amend
		e                   api.Errno
	}{
		"nothing":                     {nil, nil, nil, api.OK},
		"the first list":              {[]api.Amend{amend("a", "", "x"), amend("b", "x", "")}, nil, []api.Amend{amend("a", "", "x"), amend("b", "x", "")}, api.OK},
		"the second list":             {[]api.Amend{}, []api.Amend{amend("a", "", "x"), amend("b", "x", "\n")}, []api.Amend{amend("a", "", "x"), amend("b", "x", "\n")}, api.OK},
		"different keys":              {[]api.Amend{amend("b", "x", "y"), amend("d", "", "x")}, []api.Amend{amend("a", "x", ""), amend("c", "y", "x"), amend("e", "x", "z")}, []api.Amend{amend("a", "x", ""), amend("b", "x", "y"), amend("c", "y", "x"), amend("d", "", "x"), amend("e", "x", "z")}, api.OK},
		"the same key":                {[]api.Amend{amend("a", "x", "y")}, []api.Amend{amend("a", "y", "z")}, []api.Amend{amend("a", "x", "z")}, api.OK},
		"an addition and a change":    {[]api.Amend{amend("a", "", "y")}, []api.Amend{amend("a", "y", "z")}, []api.Amend{amend("a", "", "z")}, api.OK},
		"a change and a removal":      {[]api.Amend{amend("a", "x", "y"), amend("b", "", "x")}, []api.Amend{amend("a", "y", "")}, []api.Amend{amend("a", "x", ""), amend("b", "", "x")}, api.OK},
		"a removal and an addition":   {[]api.Amend{amend("a", "x", "")}, []api.Amend{amend("a", "", "y"), amend("b", "", "x")}, []api.Amend{amend("a", "x", "y"), amend("b", "", "x")}, api.OK},
		"there and back":              {[]api.Amend{amend("a", "x", "y"), amend("b", "", "x"), amend("c", "x", "")}, []api.Amend{amend("a", "y", "x"), amend("b", "x", ""), amend("c", "", "x")}, nil, api.OK},
		"there and back of one":       {[]api.Amend{amend("a", "x", "y"), amend("b", "", "x")}, []api.Amend{amend("a", "y", "x"), amend("c", "z", "y")}, []api.Amend{amend("b", "", "x"), amend("c", "z", "y")}, api.OK},
		"any keys":                    {[]api.Amend{amend("", "x", ""), amend("\x00", "", "\xff")}, []api.Amend{amend("\x00", "\xff", "a"), amend("\xff", "", "b")}, []api.Amend{amend("", "x", ""), amend("\x00", "", "a"), amend("\xff", "", "b")}, api.OK},
		"a conflict":                  {[]api.Amend{amend("a", "x", "y")}, []api.Amend{amend("a", "x", "y")}, nil, api.ErrConflict},
		"a conflict with nothing":     {[]api.Amend{amend("a", "x", "")}, []api.Amend{amend("a", "x", "y")}, nil, api.ErrConflict},
		"a second addition":           {[]api.Amend{amend("a", "", "x")}, []api.Amend{amend("a", "", "x")}, nil, api.ErrConflict},
		"a conflict behind others":    {[]api.Amend{amend("a", "", "x"), amend("c", "y", "x")}, []api.Amend{amend("a", "x", ""), amend("b", "x", ""), amend("c", "y", "x")}, nil, api.ErrConflict},
		"a disorder in the first":     {[]api.Amend{amend("b", "x", "y"), amend("a", "x", "y")}, nil, nil, api.ErrOrder},
		"a disorder in the second":    {nil, []api.Amend{amend("b", "x", "y"), amend("a", "x", "y")}, nil, api.ErrOrder},
		"a key twice in the first":    {[]api.Amend{amend("a", "x", "y"), amend("a", "y", "z")}, nil, nil, api.ErrOrder},
		"a key twice in the second":   {nil, []api.Amend{amend("a", "x", "y"), amend("a", "y", "z")}, nil, api.ErrOrder},
		"no change in the first":      {[]api.Amend{amend("a", "x", "x")}, nil, nil, api.ErrOrder},
		"no change in the second":     {[]api.Amend{amend("a", "x", "y")}, []api.Amend{amend("a", "y", "y")}, nil, api.ErrOrder},
		"no change of nothing":        {nil, []api.Amend{{}}, nil, api.ErrOrder},
		"a disorder and a conflict":   {[]api.Amend{amend("a", "x", "y")}, []api.Amend{amend("a", "x", "y"), amend("A", "x", "y")}, nil, api.ErrOrder},
		"a conflict and a disorder":   {[]api.Amend{amend("b", "x", "y"), amend("a", "x", "y")}, []api.Amend{amend("b", "x", "y")}, nil, api.ErrOrder},
		"a disorder of two behind ok": {[]api.Amend{amend("a", "x", "y"), amend("b", "x", "y"), amend("b", "x", "z")}, nil, nil, api.ErrOrder},
	} {
		first, second := slices.Clone(c.first), slices.Clone(c.second)
		list, e := Compose(c.first, c.second)
		if e != c.e || !slices.Equal(list, c.want) || !slices.Equal(first, c.first) || !slices.Equal(second, c.second) {
			t.Errorf("Compose of %s: %q, %d; want %q, %d", name, list, e, c.want, c.e)
		}
		clear(list)
		if !slices.Equal(first, c.first) || !slices.Equal(second, c.second) {
			t.Errorf("Compose of %s shares memory with its arguments", name)
		}
	}
}
