package segment

import (
	"math/rand"
	"reflect"
	"slices"
	"strconv"
	"strings"
	"testing"

	"salchow/api"
	"salchow/formula"
	"salchow/parser"
)

// sample returns a valid segment with two requirements, two penalties and three panels.
func sample() api.Segment {
	return api.Segment{
		Name: "free", Count: 7, Repeat: 1, Connections: 1500,
		Requires:  []api.Require{{Group: "acro", Least: 1, Deduct: 250}, {Group: "jump", Least: 2, Deduct: 500}},
		Penalties: []api.Penalty{{Name: "fall", Value: 1000, Most: 9}, {Name: "time", Value: 300, Most: 1}},
		Panels: []api.Panel{
			{Name: "art", Kind: api.PanelOverall, Hi: 10000, Step: 250, Judges: 7, Least: 5, Drop: 1, Tolerance: 750},
			{Name: "b", Kind: api.PanelOverall, Lo: 500, Hi: 1000, Step: 100, Judges: 3, Least: 3, Tolerance: 1},
			{Name: "goe", Kind: api.PanelElements, Lo: -5000, Hi: 5000, Step: 1000, Judges: 7, Least: 1, Drop: 3, Tolerance: 2000, Scale: 100},
		},
		Score: sum(variable("art"), sum(variable("goe"), variable("penalties"))),
	}
}

// variable returns the formula of a name.
func variable(name string) api.Expr { return api.Expr{Op: api.ExprVar, Name: name, At: 5} }

// sum returns the formula of a sum.
func sum(a, b api.Expr) api.Expr {
	return api.Expr{Op: api.ExprAdd, Kids: []api.Expr{a, b}, At: -7}
}

// mutation is a change of the sample, and the error that it brings.
type mutation struct {
	name   string
	change func(s *api.Segment)
	want   api.Errno
}

// limitMutations and the following functions return changes that do not undo those of the functions behind them, in the order of their errors.
func limitMutations() []mutation {
	return []mutation{
		{"too many panels", func(s *api.Segment) {
			for i := range 4 {
				s.Panels = append(s.Panels, api.Panel{Name: "p" + strconv.Itoa(i), Kind: 1, Step: 1, Judges: 1, Least: 1})
			}
		}, api.ErrLimit},
		{"too many penalties", func(s *api.Segment) {
			for i := range 11 {
				s.Penalties = append(s.Penalties, api.Penalty{Name: "z" + strconv.Itoa(i+10), Most: 1})
			}
		}, api.ErrLimit},
	}
}

func argumentMutations() []mutation {
	return []mutation{
		{"no kind", func(s *api.Segment) { s.Panels[0].Kind = 0 }, api.ErrArgument},
		{"another kind", func(s *api.Segment) { s.Panels[1].Kind = 3 }, api.ErrArgument},
		{"a negative kind", func(s *api.Segment) { s.Panels[2].Kind = -1 }, api.ErrArgument},
		{"a scale of marks of all", func(s *api.Segment) { s.Panels[0].Scale = 100 }, api.ErrArgument},
		{"a negative scale of marks of all", func(s *api.Segment) { s.Panels[1].Scale = -1 }, api.ErrArgument},
		{"no formula", func(s *api.Segment) { s.Score = api.Expr{} }, api.ErrArgument},
		{"a formula with a field too many", func(s *api.Segment) { s.Score.Kids[0].N = 1 }, api.ErrArgument},
		{"a formula with a negative number", func(s *api.Segment) { s.Score.Kids[0] = api.Expr{Op: api.ExprConst, N: -1} }, api.ErrArgument},
		{"a variable that is no name", func(s *api.Segment) { s.Score.Kids[1].Kids[0].Name = "Goe" }, api.ErrArgument},
		{"a variable with the name of an operation", func(s *api.Segment) { s.Score.Kids[1].Kids[0].Name = "min" }, api.ErrArgument},
	}
}

func nameMutations() []mutation {
	return []mutation{
		{"no name", func(s *api.Segment) { s.Name = "" }, api.ErrName},
		{"a name that is none", func(s *api.Segment) { s.Name = "Free" }, api.ErrName},
		{"no group", func(s *api.Segment) { s.Requires[0].Group = "" }, api.ErrName},
		{"another group", func(s *api.Segment) { s.Requires[1].Group = "line" }, api.ErrName},
		{"a penalty without a name", func(s *api.Segment) { s.Penalties[0].Name = "" }, api.ErrName},
		{"a penalty with a long name", func(s *api.Segment) { s.Penalties[1].Name = "time5678901234567" }, api.ErrName},
		{"a panel without a name", func(s *api.Segment) { s.Panels = slices.Insert(s.Panels, 0, s.Panels[1]); s.Panels[0].Name = "" }, api.ErrName},
		{"a panel with a name that is none", func(s *api.Segment) { s.Panels[1].Name = "b c" }, api.ErrName},
		{"a panel best", func(s *api.Segment) { s.Panels[1].Name = "best" }, api.ErrName},
		{"a panel difficulty", func(s *api.Segment) { s.Panels[1].Name = "difficulty" }, api.ErrName},
		{"a panel penalties", func(s *api.Segment) { s.Panels = append(s.Panels, s.Panels[1]); s.Panels[3].Name = "penalties" }, api.ErrName},
		{"a panel total", func(s *api.Segment) { s.Panels = append(s.Panels, s.Panels[1]); s.Panels[3].Name = "total" }, api.ErrName},
		{"a variable without a panel", func(s *api.Segment) { s.Score.Kids[0].Name = "arts" }, api.ErrName},
		{"a penalty as a variable", func(s *api.Segment) { s.Score.Kids[1].Kids[1].Name = "fall" }, api.ErrName},
		{"a reserved variable", func(s *api.Segment) { s.Score.Kids[0].Name = "total" }, api.ErrName},
	}
}

func orderMutations() []mutation {
	return []mutation{
		{"requirements out of order", func(s *api.Segment) { slices.Reverse(s.Requires) }, api.ErrTwice},
		{"penalties out of order", func(s *api.Segment) { slices.Reverse(s.Penalties) }, api.ErrTwice},
		{"panels out of order", func(s *api.Segment) { s.Panels[0], s.Panels[1] = s.Panels[1], s.Panels[0] }, api.ErrTwice},
		{"a requirement twice", func(s *api.Segment) { s.Requires = append(s.Requires, api.Require{Group: "jump", Least: 1}) }, api.ErrTwice},
		{"a penalty twice", func(s *api.Segment) { s.Penalties = append(s.Penalties, s.Penalties[1]) }, api.ErrTwice},
		{"a panel twice", func(s *api.Segment) { s.Panels = append(s.Panels, s.Panels[2]) }, api.ErrTwice},
	}
}

func rangeMutations() []mutation {
	const most = api.MaxMilli
	changes := map[string]func(s *api.Segment){
		"no count": func(s *api.Segment) { s.Count = 0 }, "a negative count": func(s *api.Segment) { s.Count = -1 << 63 }, "a great count": func(s *api.Segment) { s.Count = 31 },
		"no repeat": func(s *api.Segment) { s.Repeat = 0 }, "a negative repeat": func(s *api.Segment) { s.Repeat = -1 }, "a great repeat": func(s *api.Segment) { s.Repeat = 31 },
		"negative connections": func(s *api.Segment) { s.Connections = -1 }, "great connections": func(s *api.Segment) { s.Connections = most + 1 },
		"no least": func(s *api.Segment) { s.Requires[0].Least = 0 }, "a great least": func(s *api.Segment) { s.Requires[1].Least = 31 },
		"a negative deduction": func(s *api.Segment) { s.Requires[1].Deduct = -1 }, "a great deduction": func(s *api.Segment) { s.Requires[0].Deduct = most + 1 },
		"a negative value": func(s *api.Segment) { s.Penalties[0].Value = -1 << 63 }, "a great value": func(s *api.Segment) { s.Penalties[1].Value = most + 1 },
		"no most": func(s *api.Segment) { s.Penalties[1].Most = 0 }, "a great most": func(s *api.Segment) { s.Penalties[0].Most = 31 },
		"a least mark that is too low": func(s *api.Segment) { s.Panels[2].Lo = -most - 1 }, "a least mark that is too high": func(s *api.Segment) { s.Panels[1].Lo, s.Panels[1].Hi = most+1, most+1 }, "a least mark above the greatest": func(s *api.Segment) { s.Panels[1].Lo = 1001 },
		"a greatest mark below 0": func(s *api.Segment) { s.Panels[2].Hi = -1 }, "a greatest mark that is too high": func(s *api.Segment) { s.Panels[0].Hi = most + 1 },
		"no step": func(s *api.Segment) { s.Panels[0].Step = 0 }, "a negative step": func(s *api.Segment) { s.Panels[1].Step = -1 }, "a great step": func(s *api.Segment) { s.Panels[2].Step = most + 1 },
		"no judges": func(s *api.Segment) { s.Panels[0].Judges, s.Panels[0].Least = 0, 0 }, "too many judges": func(s *api.Segment) { s.Panels[1].Judges = 16 },
		"no least judges": func(s *api.Segment) { s.Panels[1].Least = 0 }, "more least judges than judges": func(s *api.Segment) { s.Panels[1].Least = 4 }, "negative least judges": func(s *api.Segment) { s.Panels[0].Least = -1 },
		"a negative drop": func(s *api.Segment) { s.Panels[0].Drop = -1 }, "a great drop": func(s *api.Segment) { s.Panels[2].Drop = 16 },
		"a negative tolerance": func(s *api.Segment) { s.Panels[0].Tolerance = -1 }, "a great tolerance": func(s *api.Segment) { s.Panels[1].Tolerance = most + 1 },
		"a negative scale": func(s *api.Segment) { s.Panels[2].Scale = -1 }, "a great scale": func(s *api.Segment) { s.Panels[2].Scale = most + 1 },
	}
	var list []mutation
	for name, change := range changes {
		list = append(list, mutation{name, change, api.ErrRange})
	}
	return list
}

// refusesSegment checks that Check and Clause have an error, and Clause nothing else.
func refusesSegment(t *testing.T, name string, s api.Segment, want api.Errno) {
	t.Helper()
	c, before := rules(), copiedSegment(s, true)
	if e := Check(c, s); e != want {
		t.Errorf("Check of %s: %d; want %d", name, e, want)
	}
	if k, e := Clause(c, s); e != want || !reflect.DeepEqual(k, api.Clause{}) {
		t.Errorf("Clause of %s: %v, %d; want %d", name, k, e, want)
	}
	if !same(s, before) || !reflect.DeepEqual(c, rules()) {
		t.Errorf("%s: the arguments have changed", name)
	}
}

func TestCheckOfChanges(t *testing.T) {
	if e := Check(rules(), sample()); e != api.OK {
		t.Fatalf("Check: %d", e)
	}
	all := slices.Concat(limitMutations(), argumentMutations(), nameMutations(), orderMutations(), rangeMutations())
	for i, m := range all {
		s := sample()
		m.change(&s)
		refusesSegment(t, m.name, s, m.want)
		// Of two errors the one that is named first counts.
		for _, other := range all[i+1:] {
			s := sample()
			other.change(&s)
			m.change(&s)
			if other.want != m.want {
				refusesSegment(t, m.name+", "+other.name, s, m.want)
			}
		}
	}
}

func TestCheckOfValidSegments(t *testing.T) {
	for name, change := range map[string]func(s *api.Segment){
		"nothing but a formula": func(s *api.Segment) {
			*s = api.Segment{Name: "a", Count: 30, Repeat: 30, Connections: api.MaxMilli, Score: variable("difficulty")}
		},
		"empty lists": func(s *api.Segment) {
			s.Requires, s.Penalties, s.Panels, s.Score = []api.Require{}, []api.Penalty{}, []api.Panel{}, variable("penalties")
		},
		"the least numbers":      func(s *api.Segment) { s.Count, s.Repeat, s.Connections = 1, 1, 0 },
		"no deduction":           func(s *api.Segment) { s.Requires[0] = api.Require{Group: "acro", Least: 30} },
		"the greatest deduction": func(s *api.Segment) { s.Requires[0] = api.Require{Group: "acro", Least: 1, Deduct: api.MaxMilli} },
		"the greatest penalty":   func(s *api.Segment) { s.Penalties[1].Value, s.Penalties[1].Most = api.MaxMilli, 30 },
		"no penalty":             func(s *api.Segment) { s.Penalties[1].Value, s.Penalties[1].Most = 0, 1 },
		"a name of a variable":   func(s *api.Segment) { s.Name, s.Penalties[1].Name = "difficulty", "total" },
		"the least panel": func(s *api.Segment) {
			s.Panels[2] = api.Panel{Name: "goe", Kind: api.PanelElements, Lo: -api.MaxMilli, Step: 1, Judges: 1, Least: 1}
		},
		"the greatest panel": func(s *api.Segment) {
			s.Panels[2] = api.Panel{Name: "goe", Kind: api.PanelElements, Lo: api.MaxMilli, Hi: api.MaxMilli, Step: api.MaxMilli, Judges: 15, Least: 15, Drop: 15, Tolerance: api.MaxMilli, Scale: api.MaxMilli}
		},
		"a least mark just below 0": func(s *api.Segment) { s.Panels[2].Lo = -1 },
		"a panel min":               func(s *api.Segment) { s.Panels[2].Name, s.Score = "min", variable("b") },
		"other offsets":             func(s *api.Segment) { s.Score.At, s.Score.Kids[0].At = 1<<62, -1<<63 },
		"six panels": func(s *api.Segment) {
			s.Panels = append(s.Panels, s.Panels...)
			s.Panels[3].Name, s.Panels[4].Name, s.Panels[5].Name = "h", "h_", "h__"
		},
		"twelve penalties": func(s *api.Segment) {
			s.Penalties = nil
			for _, name := range strings.Split("abcdefghijkl", "") {
				s.Penalties = append(s.Penalties, api.Penalty{Name: name, Most: 1})
			}
		},
	} {
		s := sample()
		change(&s)
		if e := Check(rules(), s); e != api.OK {
			t.Errorf("%s: %d", name, e)
		}
		k, e := Clause(rules(), s)
		if other, f := Load(rules(), k); e != api.OK || f != (api.Fault{}) || !alike(s, other) {
			t.Errorf("%s: %d, %v, %v", name, e, other, f)
		}
	}
	if e := Check(api.Catalog{}, sample()); e != api.ErrName {
		t.Errorf("Check without groups: %d", e)
	}
}

// milli returns the source of a number of thousandths, with a sign if it is negative.
func milli(n int64) string {
	if n < 0 {
		return "-" + milli(-n)
	}
	return strconv.FormatInt(n/1000, 10) + "." + strconv.FormatInt(1000+n%1000, 10)[1:]
}

// sourceOf returns the source of a segment, which may be no segment for other ones.
func sourceOf(s api.Segment) string {
	text := "segment " + s.Name + " {\ncount " + strconv.Itoa(s.Count) + "; repeat " + strconv.Itoa(s.Repeat) + "; connections " + milli(s.Connections) + ";\n"
	for _, r := range s.Requires {
		text += "require " + r.Group + " least " + strconv.Itoa(r.Least) + " deduct " + milli(r.Deduct) + ";\n"
	}
	for _, p := range s.Penalties {
		text += "penalty " + p.Name + " value " + milli(p.Value) + " most " + strconv.Itoa(p.Most) + ";\n"
	}
	for _, p := range s.Panels {
		kind := map[int]string{api.PanelOverall: "overall ", api.PanelElements: "elements "}[p.Kind]
		text += "panel " + p.Name + " " + kind + milli(p.Lo) + " to " + milli(p.Hi) + " step " + milli(p.Step) + " judges " + strconv.Itoa(p.Judges) + " least " + strconv.Itoa(p.Least) + " drop " + strconv.Itoa(p.Drop) + " tolerance " + milli(p.Tolerance)
		if p.Kind == api.PanelElements {
			text += " scale " + milli(p.Scale)
		}
		text += ";\n"
	}
	score, _ := formula.Print(s.Score)
	return text + "score " + score + ";\n}"
}

// loadable reports whether Load returns a segment for some entry: whether it does so for that of the segment.
func loadable(s api.Segment) bool {
	list, f := parser.Parse(sourceOf(s))
	if f.Code != api.OK || len(list) != 1 {
		return false
	}
	other, f := Load(rules(), list[0])
	return f.Code == api.OK && alike(s, other)
}

// draw returns a random segment, which is mostly valid.
func draw(random *rand.Rand) api.Segment {
	amount := func() int64 { return []int64{0, 1, 250, 1500, 999999, api.MaxMilli}[random.Intn(6)] }
	s := api.Segment{Name: "s_" + strconv.Itoa(random.Intn(3)), Count: 1 + random.Intn(30), Repeat: 1 + random.Intn(30), Connections: amount()}
	for _, group := range []string{"acro", "jump", "spin"} {
		if random.Intn(2) == 0 {
			s.Requires = append(s.Requires, api.Require{Group: group, Least: 1 + random.Intn(30), Deduct: amount()})
		}
	}
	for _, name := range []string{"a", "best", "fall", "goe"} {
		if random.Intn(2) == 0 {
			s.Penalties = append(s.Penalties, api.Penalty{Name: name, Value: amount(), Most: 1 + random.Intn(30)})
		}
	}
	variables := []api.Expr{variable("difficulty"), variable("penalties"), {Op: api.ExprConst, N: 2500}}
	for _, name := range []string{"a_1", "art", "goe", "max", "z"} {
		if random.Intn(2) == 0 {
			continue
		}
		p := api.Panel{Name: name, Kind: 1 + random.Intn(2), Lo: int64(random.Intn(5)-2) * 500, Step: 1 + amount()/2, Judges: 1 + random.Intn(15), Drop: random.Intn(16), Tolerance: amount()}
		p.Least = 1 + random.Intn(p.Judges)
		p.Hi = max(p.Lo, 0) + amount()/2
		if p.Kind == api.PanelElements {
			p.Scale = amount()
		}
		s.Panels = append(s.Panels, p)
		if name != "max" {
			variables = append(variables, variable(name))
		}
	}
	s.Score = variables[random.Intn(len(variables))]
	for range random.Intn(6) {
		s.Score = api.Expr{Op: api.ExprAdd + random.Intn(3), Kids: []api.Expr{s.Score, variables[random.Intn(len(variables))]}, At: random.Intn(9)}
		if random.Intn(3) == 0 {
			s.Score = api.Expr{Op: api.ExprMin + random.Intn(2), Kids: []api.Expr{variables[0], {Op: api.ExprNeg, Kids: []api.Expr{s.Score}}}}
		}
	}
	return s
}

// disturb changes something of a segment.
func disturb(random *rand.Rand, s *api.Segment) {
	word := []string{"", "a", "jump", "art", "goe", "best", "A"}[random.Intn(7)]
	n := []int{-1, 0, 1, 15, 16, 30, 31}[random.Intn(7)]
	m := []int64{-api.MaxMilli - 1, -api.MaxMilli, -1, 0, 1, api.MaxMilli, api.MaxMilli + 1}[random.Intn(7)]
	switch random.Intn(4) {
	case 0:
		fields := []*int{&s.Count, &s.Repeat}
		*fields[random.Intn(2)] = n
	case 1:
		s.Score.Name = word
	}
	if i := len(s.Requires); i > 0 && random.Intn(4) == 0 {
		s.Requires[random.Intn(i)] = api.Require{Group: word, Least: n, Deduct: m}
	}
	if i := len(s.Penalties); i > 0 && random.Intn(4) == 0 {
		s.Penalties[random.Intn(i)] = api.Penalty{Name: word, Value: m, Most: n}
	}
	if i := len(s.Panels); i > 0 && random.Intn(2) == 0 {
		p := &s.Panels[random.Intn(i)]
		numbers := []*int{&p.Judges, &p.Least, &p.Drop, &p.Kind}
		amounts := []*int64{&p.Lo, &p.Hi, &p.Step, &p.Tolerance, &p.Scale}
		switch random.Intn(3) {
		case 0:
			*numbers[random.Intn(4)] = n
		case 1:
			*amounts[random.Intn(5)] = m
		case 2:
			p.Name = word
		}
	}
}

func TestCheckIsWhatLoadCanReturn(t *testing.T) {
	random := rand.New(rand.NewSource(73))
	valid := 0
	for i := range 20000 {
		s := draw(random)
		if i%4 > 0 {
			disturb(random, &s)
		}
		want := loadable(s)
		if want {
			valid++
		}
		if e := Check(rules(), s); (e == api.OK) != want || i%4 == 0 && !want {
			t.Errorf("Check of %v: %d; want %v", s, e, want)
		}
		if _, e := Clause(rules(), s); (e == api.OK) != want {
			t.Errorf("Clause of %v: %d; want %v", s, e, want)
		}
	}
	if valid < 6000 || valid > 16000 {
		t.Errorf("%d segments are valid", valid)
	}
}
