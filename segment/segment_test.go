package segment

import (
	"math/rand"
	"slices"
	"testing"

	"salchow/api"
)

func TestPanelPenaltyAndRequire(t *testing.T) {
	s := sample()
	for _, want := range s.Panels {
		if p, e := Panel(s, want.Name); p != want || e != api.OK {
			t.Errorf("Panel %s: %v, %d", want.Name, p, e)
		}
	}
	for _, want := range s.Penalties {
		if p, e := Penalty(s, want.Name); p != want || e != api.OK {
			t.Errorf("Penalty %s: %v, %d", want.Name, p, e)
		}
	}
	for _, want := range s.Requires {
		if r, e := Require(s, want.Group); r != want || e != api.OK {
			t.Errorf("Require %s: %v, %d", want.Group, r, e)
		}
	}
	for _, name := range []string{"", "free", "difficulty", "penalties", "total", "ar", "art ", "Art", "spin", "c"} {
		if p, e := Panel(s, name); p != (api.Panel{}) || e != api.ErrName {
			t.Errorf("Panel %q: %v, %d", name, p, e)
		}
		if p, e := Penalty(s, name); p != (api.Penalty{}) || e != api.ErrName {
			t.Errorf("Penalty %q: %v, %d", name, p, e)
		}
		if r, e := Require(s, name); r != (api.Require{}) || e != api.ErrName {
			t.Errorf("Require %q: %v, %d", name, r, e)
		}
	}
	// Each looks in its own list.
	for _, name := range []string{"fall", "acro"} {
		if _, e := Panel(s, name); e != api.ErrName {
			t.Errorf("Panel %s: %d", name, e)
		}
	}
	for _, name := range []string{"art", "acro"} {
		if _, e := Penalty(s, name); e != api.ErrName {
			t.Errorf("Penalty %s: %d", name, e)
		}
	}
	for _, name := range []string{"art", "fall"} {
		if _, e := Require(s, name); e != api.ErrName {
			t.Errorf("Require %s: %d", name, e)
		}
	}
}

func TestFirstOnesOfAnySegment(t *testing.T) {
	s := api.Segment{
		Panels:    []api.Panel{{Name: "z", Lo: 1}, {Name: "b", Lo: 2}, {Name: "z", Lo: 3}, {Lo: 4}, {Name: "B C", Lo: 5}, {Lo: 6}, {Name: "difficulty", Lo: 7}},
		Penalties: []api.Penalty{{Name: "z", Most: -1}, {Name: "b", Most: -2}, {Name: "z", Most: -3}, {Most: -4}, {Most: -5}, {Name: "b", Most: -6}},
		Requires:  []api.Require{{Group: "z", Least: -1}, {Least: -2}, {Group: "b", Least: -3}, {Group: "z", Least: -4}, {Least: -5}},
	}
	for name, want := range map[string]int64{"z": 1, "b": 2, "": 4, "B C": 5, "difficulty": 7} {
		if p, e := Panel(s, name); p.Lo != want || p.Name != name || e != api.OK {
			t.Errorf("Panel %q: %v, %d", name, p, e)
		}
	}
	for name, want := range map[string]int{"z": -1, "b": -2, "": -4} {
		if p, e := Penalty(s, name); p.Most != want || p.Name != name || e != api.OK {
			t.Errorf("Penalty %q: %v, %d", name, p, e)
		}
	}
	for name, want := range map[string]int{"z": -1, "": -2, "b": -3} {
		if r, e := Require(s, name); r.Least != want || r.Group != name || e != api.OK {
			t.Errorf("Require %q: %v, %d", name, r, e)
		}
	}
	if _, e := Panel(api.Segment{}, ""); e != api.ErrName {
		t.Errorf("Panel of no segment: %d", e)
	}
}

func TestVariables(t *testing.T) {
	panels := func(names ...string) api.Segment {
		var s api.Segment
		for _, name := range names {
			s.Panels = append(s.Panels, api.Panel{Name: name})
		}
		return s
	}
	for i, c := range []struct {
		s    api.Segment
		want []string
	}{
		{sample(), []string{"art", "b", "difficulty", "goe", "penalties"}},
		{api.Segment{}, []string{"difficulty", "penalties"}},
		{panels("z", "a", "z", "m", "a"), []string{"a", "difficulty", "m", "penalties", "z"}},
		{panels("penalties", "difficulty", "total", ""), []string{"", "difficulty", "penalties", "total"}},
		{panels("min", "E", "e", "q", "max"), []string{"E", "difficulty", "e", "max", "min", "penalties", "q"}},
	} {
		before := copiedSegment(c.s, true)
		names := Variables(c.s)
		if !slices.Equal(names, c.want) {
			t.Errorf("%d: %q; want %q", i, names, c.want)
		}
		names[0] = "x"
		if again := Variables(c.s); !slices.Equal(again, c.want) || !same(c.s, before) {
			t.Errorf("%d: %q", i, again)
		}
	}
}

// marksOf returns the marks of a panel, by adding steps.
func marksOf(p api.Panel) []int64 {
	var marks []int64
	if p.Step < 1 || p.Lo < -1000000 || p.Hi < -1000000 || p.Lo > 1000000 || p.Hi > 1000000 {
		return nil
	}
	for mark := p.Lo; mark <= p.Hi; mark += p.Step {
		marks = append(marks, mark)
		if p.Step > 4000000 {
			break
		}
	}
	return marks
}

// distance returns the distance of two numbers, which may be greater than any int64.
func distance(a, b int64) uint64 {
	if a < b {
		return distance(b, a)
	}
	return uint64(a) - uint64(b)
}

// nearestOf returns the mark that is nearest to a number, or the lesser one of two.
func nearestOf(marks []int64, n int64) int64 {
	return slices.MinFunc(marks, func(a, b int64) int {
		switch {
		case distance(a, n) < distance(b, n):
			return -1
		case distance(a, n) > distance(b, n):
			return 1
		}
		return int(a - b)
	})
}

// checkMarks checks the functions about marks for a panel and for numbers around its marks and others.
func checkMarks(t *testing.T, p api.Panel, others ...int64) {
	t.Helper()
	marks := marksOf(p)
	if n := Marks(p); n != len(marks) {
		t.Fatalf("Marks(%v): %d; want %d", p, n, len(marks))
	}
	for _, i := range []int{-1 << 63, -2, -1, len(marks), len(marks) + 1, 1<<63 - 1} {
		if m, e := Mark(p, i); m != 0 || e != api.ErrRange {
			t.Errorf("Mark(%v, %d): %d, %d", p, i, m, e)
		}
	}
	for i, want := range marks {
		if m, e := Mark(p, i); m != want || e != api.OK {
			t.Errorf("Mark(%v, %d): %d, %d; want %d", p, i, m, e, want)
		}
	}
	for _, n := range append(others, -1<<63, -1<<63+1, -5000000, p.Lo-1, p.Lo, p.Lo+1, p.Hi-1, p.Hi, p.Hi+1, 5000000, 1<<63-2, 1<<63-1) {
		if on := OnGrid(p, n); on != slices.Contains(marks, n) {
			t.Errorf("OnGrid(%v, %d): %v", p, n, on)
		}
		want, wantE := int64(0), api.ErrRange
		if len(marks) > 0 {
			want, wantE = nearestOf(marks, n), api.OK
		}
		if m, e := Nearest(p, n); m != want || e != wantE {
			t.Errorf("Nearest(%v, %d): %d, %d; want %d, %d", p, n, m, e, want, wantE)
		}
	}
}

func TestMarksOfSmallPanels(t *testing.T) {
	var numbers []int64
	for n := int64(-12); n <= 12; n++ {
		numbers = append(numbers, n)
	}
	for lo := int64(-5); lo <= 5; lo++ {
		for hi := int64(-6); hi <= 7; hi++ {
			for step := int64(-2); step <= 13; step++ {
				checkMarks(t, api.Panel{Lo: lo, Hi: hi, Step: step}, slices.Clone(numbers)...)
			}
		}
	}
}

func TestMarksOfOtherPanels(t *testing.T) {
	const most = api.MaxMilli
	for _, p := range []api.Panel{
		{Lo: 0, Hi: 10000, Step: 250}, {Lo: -5000, Hi: 5000, Step: 1000}, {Lo: -most, Hi: most, Step: 999}, {Lo: -most, Hi: most, Step: 2 * most}, {Lo: -most, Hi: most, Step: 2*most - 1}, {Lo: -most, Hi: most, Step: 2*most + 1}, {Lo: -most, Hi: most, Step: most},
		// Steps that no segment has.
		{Lo: -most, Hi: most, Step: 1<<63 - 1}, {Lo: 5, Hi: 5, Step: 1<<63 - 1}, {Lo: -7, Hi: 7, Step: 1 << 62}, {Lo: 1, Hi: 9, Step: -1 << 63}, {Lo: 1, Hi: 9, Step: 0},
		// Ends out of range.
		{Lo: -most - 1, Hi: 0, Step: 1}, {Lo: 0, Hi: most + 1, Step: 1000}, {Lo: -most - 1, Hi: most + 1, Step: 1000}, {Lo: -1 << 63, Hi: 1<<63 - 1, Step: 1}, {Lo: 1<<63 - 1, Hi: -1 << 63, Step: 1}, {Lo: 1, Hi: 0, Step: 1}, {Lo: most, Hi: -most, Step: 1}, {Lo: most + 1, Hi: most + 1, Step: 1}, {Lo: -most - 1, Hi: -most - 1, Step: 1}, {Lo: -most, Hi: -most, Step: 1}, {Lo: most, Hi: most, Step: 1},
		// Nothing else counts.
		{Name: "Art", Kind: -5, Lo: -3, Hi: 3, Step: 2, Judges: -1, Least: 99, Drop: -1, Tolerance: -1, Scale: -1}, {},
	} {
		checkMarks(t, p, 0, 125, 375, 376, 374, -500, 500, 501, 999, 1000, most-1, most+1, -most+1)
	}
	all := api.Panel{Lo: -most, Hi: most, Step: 1}
	if n := Marks(all); n != 2*most+1 {
		t.Errorf("%d marks", n)
	}
	if m, e := Mark(all, 2*most); m != most || e != api.OK {
		t.Errorf("%d, %d", m, e)
	}
}

func TestExampleOfMarks(t *testing.T) {
	art, _ := Panel(loaded(t, example), "art")
	if n := Marks(art); n != 41 {
		t.Errorf("%d marks", n)
	}
	if m, e := Mark(art, 3); m != 750 || e != api.OK {
		t.Errorf("%d, %d", m, e)
	}
	if m, e := Nearest(art, 375); m != 250 || e != api.OK {
		t.Errorf("%d, %d", m, e)
	}
}

func TestMarksOfRandomPanels(t *testing.T) {
	random := rand.New(rand.NewSource(75))
	for range 3000 {
		lo := int64(random.Intn(2*api.MaxMilli)) - api.MaxMilli
		p := api.Panel{Lo: lo, Hi: lo + int64(random.Intn(20000)), Step: 1 + int64(random.Intn(3000))}
		var numbers []int64
		for range 20 {
			numbers = append(numbers, lo-5000+int64(random.Intn(30000)))
		}
		if m, e := Mark(p, Marks(p)/2); e == api.OK {
			numbers = append(numbers, m, m+p.Step/2, m+(p.Step+1)/2, m-p.Step/2, m+p.Step, m-1)
		}
		checkMarks(t, p, numbers...)
	}
}
