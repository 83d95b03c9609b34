package bounds

import (
	"math/big"
	"math/rand"
	"reflect"
	"slices"
	"testing"

	"salchow/api"
)

// free returns a ruleset whose segment free has everything that matters for ranges.
func free(t *testing.T) api.Ruleset {
	c := api.Catalog{
		Groups:   []api.Group{{Name: "jump", Limit: 2, Credit: 500}, {Name: "spin", Limit: 1, Credit: 1}},
		Elements: []api.Element{{Code: "2A", Group: "jump", Value: 3500}, {Code: "3Lz", Group: "jump", Value: 6000}, {Code: "CSp", Group: "spin", Value: 1100}},
	}
	s := api.Segment{Name: "free", Count: 3, Repeat: 1, Connections: 1000}
	s.Requires = []api.Require{{Group: "jump", Least: 1, Deduct: 250}, {Group: "spin", Least: 1, Deduct: 5}}
	s.Penalties = []api.Penalty{{Name: "fall", Value: 1000, Most: 3}, {Name: "time", Value: 30, Most: 7}}
	s.Panels = []api.Panel{{Name: "art", Kind: api.PanelOverall, Lo: -500, Hi: 10000}, {Name: "grade", Kind: api.PanelElements, Lo: -5000, Hi: 4000, Scale: 100}, {Name: "zeal", Kind: api.PanelElements, Lo: 2000, Hi: 3000, Scale: 1000}}
	s.Score = formulaOf(t, "difficulty + art - penalties + grade")
	return api.Ruleset{Catalog: c, Segments: []api.Segment{{Name: "short"}, s, {Name: "free"}}}
}

// freeBoxes are the boxes of the segment free.
var freeBoxes = []Box{
	{"art", api.Interval{Lo: frac(-1, 2), Hi: frac(10, 1)}},
	{"difficulty", api.Interval{Lo: frac(0, 1), Hi: frac(19501, 1000)}},
	{"grade", span(-90, 72)},
	{"penalties", api.Interval{Lo: frac(0, 1), Hi: frac(693, 200)}},
	{"zeal", span(0, 540)},
}

// sameBoxes checks the boxes of a segment.
func sameBoxes(t *testing.T, r api.Ruleset, segment string, want []Box) {
	t.Helper()
	if boxes, e := Boxes(r, segment); !slices.Equal(boxes, want) || e != api.OK {
		t.Errorf("Boxes of %s: %v, %d; want %v", segment, boxes, e, want)
	}
}

// refusesSegment checks that Boxes and Score refuse a segment with an error.
func refusesSegment(t *testing.T, r api.Ruleset, segment string, want api.Errno) {
	t.Helper()
	if boxes, e := Boxes(r, segment); len(boxes) != 0 || e != want {
		t.Errorf("Boxes of %q: %v, %d; want %d", segment, boxes, e, want)
	}
	if b, e := Score(r, segment); b != (api.Interval{}) || e != want {
		t.Errorf("Score of %q: %v, %d; want %d", segment, b, e, want)
	}
}

func TestBoxesAndScore(t *testing.T) {
	r := free(t)
	sameBoxes(t, r, "free", freeBoxes)
	want := api.Interval{Lo: frac(-18793, 200), Hi: frac(101501, 1000)}
	if b, e := Score(r, "free"); b != want || e != api.OK {
		t.Errorf("Score: %v, %d; want %v", b, e, want)
	}
	if !reflect.DeepEqual(r, free(t)) {
		t.Error("the ruleset has changed")
	}
	refusesSegment(t, r, "long", api.ErrNone)
	refusesSegment(t, r, "", api.ErrNone)
	refusesSegment(t, api.Ruleset{}, "free", api.ErrNone)
	// The first segment with the name counts.
	refusesSegment(t, r, "short", api.ErrArgument)
	r.Segments[0].Name = "free"
	refusesSegment(t, r, "free", api.ErrArgument)
	r.Segments[0].Count = 1
	if b, e := Score(r, "free"); b != (api.Interval{}) || e != api.ErrArgument {
		t.Errorf("Score without a formula: %v, %d", b, e)
	}
	sameBoxes(t, r, "free", []Box{{"difficulty", api.Interval{Lo: frac(0, 1), Hi: frac(6501, 1000)}}, {"penalties", span(0, 0)}})
}

func TestBoxesOfAnEmptyCatalog(t *testing.T) {
	r := free(t)
	r.Catalog = api.Catalog{}
	r.Segments[1].Penalties, r.Segments[1].Requires = nil, nil
	sameBoxes(t, r, "free", []Box{{"art", freeBoxes[0].Range}, {"difficulty", span(0, 1)}, {"grade", span(0, 0)}, {"penalties", span(0, 0)}, {"zeal", span(0, 0)}})
	r.Segments[1].Name = ""
	sameBoxes(t, r, "", []Box{{"art", freeBoxes[0].Range}, {"difficulty", span(0, 1)}, {"grade", span(0, 0)}, {"penalties", span(0, 0)}, {"zeal", span(0, 0)}})
}

func TestErrorsOfScore(t *testing.T) {
	for text, want := range map[string]api.Errno{"art + none": api.ErrName, "2 * speed": api.ErrName, "art": api.OK, "12": api.OK} {
		r := free(t)
		r.Segments[1].Score = formulaOf(t, text)
		if b, e := Score(r, "free"); e != want || (e != api.OK) != (b == (api.Interval{})) {
			t.Errorf("Score of %s: %v, %d; want %d", text, b, e, want)
		}
		sameBoxes(t, r, "free", freeBoxes)
	}
	r := free(t)
	r.Segments[1].Score = formulaOf(t, "grade * grade * grade * grade * 1000000 * 1000000 * 1000000")
	if b, e := Score(r, "free"); b != (api.Interval{}) || e != api.ErrRange {
		t.Errorf("Score out of range: %v, %d", b, e)
	}
	r.Segments[1].Score.Op = 77
	if b, e := Score(r, "free"); b != (api.Interval{}) || e != api.ErrArgument {
		t.Errorf("Score of no formula: %v, %d", b, e)
	}
	sameBoxes(t, r, "free", freeBoxes)
	// A segment whose boxes are refused is refused, whatever its formula is.
	r.Segments[1].Count = 0
	refusesSegment(t, r, "free", api.ErrArgument)
	refusesSegment(t, r, "none", api.ErrNone)
}

func TestArgumentsOfBoxes(t *testing.T) {
	const most = api.MaxMilli
	type change = func(c *api.Catalog, s *api.Segment)
	accepted, refused := []change{}, []change{}
	// The numbers of a range, and those beside it.
	between := func(lo, hi int64, set func(c *api.Catalog, s *api.Segment, n int64)) {
		for _, n := range []int64{lo, lo + 1, hi - 1, hi} {
			accepted = append(accepted, func(c *api.Catalog, s *api.Segment) { set(c, s, n) })
		}
		for _, n := range []int64{lo - 1, hi + 1, -1 << 63, 1<<63 - 1} {
			refused = append(refused, func(c *api.Catalog, s *api.Segment) { set(c, s, n) })
		}
	}
	between(1, api.MaxItems, func(_ *api.Catalog, s *api.Segment, n int64) { s.Count = int(n) })
	between(0, most, func(_ *api.Catalog, s *api.Segment, n int64) { s.Connections = n })
	between(0, most, func(c *api.Catalog, _ *api.Segment, n int64) { c.Elements[2].Value = n })
	between(0, most, func(c *api.Catalog, _ *api.Segment, n int64) { c.Groups[1].Credit = n })
	between(0, most, func(_ *api.Catalog, s *api.Segment, n int64) { s.Requires[1].Deduct = n })
	between(0, most, func(_ *api.Catalog, s *api.Segment, n int64) { s.Penalties[1].Value = n })
	between(1, most, func(_ *api.Catalog, s *api.Segment, n int64) { s.Penalties[1].Most = int(n) })
	for i := range 3 {
		between(0, most, func(_ *api.Catalog, s *api.Segment, n int64) { s.Panels[i].Scale = n })
		between(-most, 0, func(_ *api.Catalog, s *api.Segment, n int64) { s.Panels[i].Lo, s.Panels[i].Hi = n, 0 })
		between(0, most, func(_ *api.Catalog, s *api.Segment, n int64) { s.Panels[i].Lo, s.Panels[i].Hi = 0, n })
		between(-most, most, func(_ *api.Catalog, s *api.Segment, n int64) { s.Panels[i].Lo, s.Panels[i].Hi = n, n })
		between(1, 2, func(_ *api.Catalog, s *api.Segment, n int64) { s.Panels[i].Kind = int(n) })
	}
	for _, name := range []string{"", "a", "A b", "total", "Difficulty", "penalty"} {
		accepted = append(accepted, func(_ *api.Catalog, s *api.Segment) { s.Panels[2].Name = name })
	}
	for _, name := range []string{"difficulty", "penalties", "art", "grade"} {
		refused = append(refused, func(_ *api.Catalog, s *api.Segment) { s.Panels[2].Name = name })
	}
	accepted = append(accepted,
		// What does not matter: connects, limits, codes, the order and the number of all.
		func(c *api.Catalog, s *api.Segment) {
			c.Connects = []api.Connect{{First: "x", Value: -5}, {Value: most + 1}}
			c.Groups[0].Limit, c.Groups[1].Name, c.Elements[0].Code, c.Elements[1].Lower = -1, "jump", "", "none"
			s.Repeat, s.Requires[0].Least, s.Panels[0].Step, s.Panels[0].Judges, s.Panels[0].Tolerance = -1, -1, -1, -1, -1
		},
		func(_ *api.Catalog, s *api.Segment) { slices.Reverse(s.Panels); slices.Reverse(s.Penalties) },
		func(_ *api.Catalog, s *api.Segment) { s.Penalties[1].Name, s.Requires[1].Group = "fall", "jump" },
	)
	for i, list := range [][]change{accepted, refused} {
		want := []api.Errno{api.OK, api.ErrArgument}[i]
		for k, change := range list {
			r := free(t)
			change(&r.Catalog, &r.Segments[1])
			boxes, e := Boxes(r, "free")
			if e != want || want == api.OK && len(boxes) != 5 || want != api.OK && len(boxes) != 0 {
				t.Errorf("change %d: %v, %d; want %d", k, boxes, e, want)
			}
			if want != api.OK {
				refusesSegment(t, r, "free", want)
				refusesSegment(t, r, "none", api.ErrNone)
			}
		}
	}
}

// points returns an exact number of thousandths as points, or the zero value if it is no fraction.
func points(milli *big.Rat) api.Frac {
	f, _ := bounded(new(big.Rat).Quo(milli, big.NewRat(1000, 1)))
	return f
}

// rangesByTable returns the boxes of a segment by the table of the chapter, in any order.
func rangesByTable(c api.Catalog, s api.Segment) []Box {
	whole := func(n int64) *big.Rat { return big.NewRat(n, 1) }
	product := func(list ...int64) *big.Rat {
		all := whole(1)
		for _, n := range list {
			all.Mul(all, whole(n))
		}
		return all
	}
	value := int64(0)
	for _, e := range c.Elements {
		value = max(value, e.Value)
	}
	difficulty := whole(int64(s.Count)*value + s.Connections)
	for _, g := range c.Groups {
		difficulty.Add(difficulty, whole(g.Credit))
	}
	penalties := new(big.Rat)
	for _, p := range s.Penalties {
		penalties.Add(penalties, product(p.Value, int64(p.Most)))
	}
	for _, r := range s.Requires {
		penalties.Add(penalties, whole(r.Deduct))
	}
	boxes := []Box{{"difficulty", api.Interval{Lo: frac(0, 1), Hi: points(difficulty)}}, {"penalties", api.Interval{Lo: frac(0, 1), Hi: points(penalties)}}}
	for _, p := range s.Panels {
		lo, hi := whole(p.Lo), whole(p.Hi)
		if p.Kind == api.PanelElements {
			lo = product(api.MaxItems, value, min(p.Lo, 0), p.Scale)
			hi = product(api.MaxItems, value, max(p.Hi, 0), p.Scale)
			lo.Quo(lo, whole(1000000))
			hi.Quo(hi, whole(1000000))
		}
		boxes = append(boxes, Box{p.Name, api.Interval{Lo: points(lo), Hi: points(hi)}})
	}
	return boxes
}

// amount returns a random number of thousandths from 0 to MaxMilli.
func amount(random *rand.Rand) int64 {
	list := []int64{0, 1, 250, 1000, 3300, 999983, 999999, api.MaxMilli, random.Int63n(api.MaxMilli + 1)}
	return list[random.Intn(len(list))]
}

// segmentOf returns a random catalog and a segment.
func segmentOf(random *rand.Rand) (api.Catalog, api.Segment) {
	var c api.Catalog
	s := api.Segment{Name: "s", Count: 1 + random.Intn(api.MaxItems), Connections: amount(random)}
	for range random.Intn(5) {
		c.Elements = append(c.Elements, api.Element{Value: amount(random)})
		c.Groups = append(c.Groups, api.Group{Credit: amount(random)})
	}
	for range random.Intn(4) {
		s.Requires = append(s.Requires, api.Require{Deduct: amount(random)})
	}
	for range random.Intn(14) {
		s.Penalties = append(s.Penalties, api.Penalty{Value: amount(random), Most: int(max(1, amount(random)))})
	}
	for _, name := range []string{"zeal", "art", "exec"}[random.Intn(4):] {
		ends := []int64{amount(random), -amount(random), amount(random)}[random.Intn(2):][:2]
		slices.Sort(ends)
		s.Panels = append(s.Panels, api.Panel{Name: name, Kind: 1 + random.Intn(2), Lo: ends[0], Hi: ends[1], Scale: amount(random)})
	}
	return c, s
}

func TestBoxesOfRandomSegments(t *testing.T) {
	random := rand.New(rand.NewSource(55))
	none := 0
	for range 5000 {
		c, s := segmentOf(random)
		r := api.Ruleset{Catalog: c, Segments: []api.Segment{s}}
		r.Segments[0].Score = formulaOf(t, "difficulty - penalties")
		want := rangesByTable(c, s)
		slices.SortFunc(want, func(a, b Box) int {
			if a.Name < b.Name {
				return -1
			}
			return 1
		})
		sameBoxes(t, r, "s", want)
		wantE := api.OK
		if slices.ContainsFunc(want, func(b Box) bool { return b.Range.Lo == (api.Frac{}) || b.Range.Hi == (api.Frac{}) }) {
			wantE = api.ErrArgument
			none++
		}
		if _, e := Score(r, "s"); e != wantE {
			t.Errorf("Score for %v: %d; want %d", want, e, wantE)
		}
	}
	if none < 100 || none > 2500 {
		t.Errorf("%d segments with an end that is no fraction", none)
	}
}

func TestEndsOfElementPanels(t *testing.T) {
	const most = api.MaxMilli
	for _, c := range []struct {
		value, lo, hi, scale int64
		want                 api.Interval
		score                api.Errno
	}{
		// 30 * 10^18 has more than 64 bits, but 30 * 10^9 points are a fraction.
		{most, -most, most, most, span(-30000000000, 30000000000), api.OK},
		{999999, -999999, 1000, 999999, api.Interval{Hi: frac(2999994000003, 100000)}, api.ErrArgument},
		{999999, 0, 999999, 999999, api.Interval{Lo: frac(0, 1)}, api.ErrArgument},
		{999999, -999999, 999999, 999999, api.Interval{}, api.ErrArgument},
		{999999, -999999, 999999, 0, span(0, 0), api.OK},
		{0, -999999, 999999, 999999, span(0, 0), api.OK},
		{1, -1, 1, 1, api.Interval{Lo: frac(-3, 100000000), Hi: frac(3, 100000000)}, api.OK},
		{1000, 1000, 2000, 1000, span(0, 60), api.OK},
		{1000, -2000, -1000, 1000, span(-60, 0), api.OK},
	} {
		r := free(t)
		r.Catalog.Elements = []api.Element{{Value: 0}, {Value: c.value}, {Value: 0}}
		r.Segments[1].Panels = []api.Panel{{Name: "goe", Kind: api.PanelElements, Lo: c.lo, Hi: c.hi, Scale: c.scale}}
		r.Segments[1].Score = formulaOf(t, "penalties")
		boxes, e := Boxes(r, "free")
		if e != api.OK || len(boxes) != 3 || boxes[1] != (Box{"goe", c.want}) {
			t.Errorf("%v: %v, %d", c, boxes, e)
		}
		// The range counts even if the formula does not have the panel.
		if b, e := Score(r, "free"); e != c.score || (e != api.OK) != (b == (api.Interval{})) {
			t.Errorf("%v: %v, %d", c, b, e)
		}
	}
}

func TestLongLists(t *testing.T) {
	r := free(t)
	// Together they are 1.2 * 10^18 thousandths, and a half.
	penalties := slices.Repeat([]api.Penalty{{Value: api.MaxMilli, Most: api.MaxMilli}}, 1200000)
	r.Segments[1].Penalties, r.Segments[1].Requires = penalties, []api.Require{{Deduct: 1000}}
	boxes, e := Boxes(r, "free")
	if e != api.OK || len(boxes) != 5 || boxes[3] != (Box{"penalties", span(0, 1200000000000001)}) {
		t.Errorf("%v, %d", boxes, e)
	}
	// These are more than 2^63 thousandths.
	if all := upTo(slices.Repeat([]int64{999999999900}, 10000000)); all != span(0, 9999999999000000) {
		t.Errorf("%v", all)
	}
}
