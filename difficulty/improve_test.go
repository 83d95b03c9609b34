package difficulty

import (
	"math"
	"math/rand"
	"slices"
	"strconv"
	"testing"

	"salchow/api"
)

func TestImprove(t *testing.T) {
	for _, y := range []struct {
		line string
		want Change
		e    api.Errno
	}{
		{"3A 3A", Change{0, "2A", 3300}, api.OK},
		{"3A 2A sp*", Change{2, "sp", 3000}, api.OK},
		{"3A 2A sp", Change{}, api.ErrNone},
		{"3A 2A sp?", Change{}, api.ErrNone},
		{"", Change{}, api.ErrNone},
		{"2A", Change{0, "3A", 4700}, api.OK},
		{"3A", Change{}, api.ErrNone},
		{"3A<", Change{0, "3A", 4700}, api.OK},
		{"3A<?", Change{0, "3A", 4700}, api.OK},
		{"4Z", Change{0, "3A", 8500}, api.OK},
		{"4Z 4Z", Change{0, "3A", 8500}, api.OK},
		{"3A*", Change{0, "3A", 8500}, api.OK},
		{"2A 2A", Change{0, "3A", 8000}, api.OK},
		{"3A 2A 3A", Change{0, "sp", 3000}, api.OK},
		{"3A 4Z 2A", Change{1, "sp", 3000}, api.OK},
		{"sp 3A sp", Change{0, "2A", 3300}, api.OK},
	} {
		x := example(t, y.line)
		before := x.copied()
		if change, e := Improve(x.c, x.s, x.items); change != y.want || e != y.e {
			t.Errorf("Improve(%q): %v, %d; want %v, %d", y.line, change, e, y.want, y.e)
		}
		x.unchanged(t, before)
	}
	x := example(t, "3A")
	x.c = api.Catalog{}
	if change, e := Improve(x.c, x.s, x.items); change != (Change{}) || e != api.ErrNone {
		t.Errorf("Improve without elements: %v, %d", change, e)
	}
}

// TestImproveDeductions checks that a change that loses points can gain by what it spares.
func TestImproveDeductions(t *testing.T) {
	x := example(t, "3A")
	x.s.Requires[0].Deduct = 6500
	if change, e := Improve(x.c, x.s, x.items); change != (Change{}) || e != api.ErrNone {
		t.Errorf("Improve: %v, %d", change, e)
	}
	x.s.Requires[0].Deduct++
	if change, e := Improve(x.c, x.s, x.items); change != (Change{0, "sp", 1}) || e != api.OK {
		t.Errorf("Improve: %v, %d", change, e)
	}
}

// TestImproveJoined checks that an item stays joined, so that a change can gain by its connections.
func TestImproveJoined(t *testing.T) {
	for _, y := range []struct {
		line string
		want Change
		e    api.Errno
	}{
		{"A+A", Change{0, "B", 7}, api.OK},
		{"A A", Change{}, api.ErrNone},
		{"A+B", Change{1, "A", 7}, api.OK},
		{"B+B", Change{1, "A", 14}, api.OK},
		{"B<+A", Change{0, "B", 14}, api.OK},
		{"B*+A", Change{0, "B", 14}, api.OK},
	} {
		x := example(t, y.line)
		x.c = api.Catalog{
			Groups:   []api.Group{{Name: "g", Limit: 1}},
			Classes:  []string{"c", "d"},
			Elements: []api.Element{{Code: "A", Group: "g", Value: 100, Class: "c"}, {Code: "B", Group: "g", Value: 100, Class: "d"}},
			Connects: []api.Connect{{First: "c", Second: "c", Value: 7}, {First: "d", Second: "c", Value: 14}},
		}
		x.s = api.Segment{Count: 1, Repeat: 1, Connections: 20}
		if change, e := Improve(x.c, x.s, x.items); change != y.want || e != y.e {
			t.Errorf("Improve(%q): %v, %d; want %v, %d", y.line, change, e, y.want, y.e)
		}
	}
}

// netOf returns the net difficulty of a line.
func (x task) netOf(t *testing.T, items []api.Item) int64 {
	t.Helper()
	r, e := Compute(x.c, x.s, items)
	if e != api.OK {
		t.Fatal(e)
	}
	return r.Worth + r.Connections - r.Deductions
}

// TestImproveOfRandomTasks compares with all changes.
func TestImproveOfRandomTasks(t *testing.T) {
	random := rand.New(rand.NewSource(243))
	equal, none := 0, 0
	for range 800 {
		x := randomTask(t, random, 8)
		var list []Change
		for i, item := range x.items {
			for _, y := range x.c.Elements {
				changed := api.Item{Code: y.Code, Joined: item.Joined}
				if changed != item {
					items := slices.Clone(x.items)
					items[i] = changed
					list = append(list, Change{i, y.Code, x.netOf(t, items) - x.netOf(t, x.items)})
				}
			}
		}
		slices.SortStableFunc(list, func(a, b Change) int { return int(b.Gain - a.Gain) })
		want, e := Change{}, api.ErrNone
		if len(list) > 0 && list[0].Gain > 0 {
			want, e = list[0], api.OK
			if len(list) > 1 && list[1].Gain == want.Gain {
				equal++
			}
		} else {
			none++
		}
		if change, got := Improve(x.c, x.s, x.items); change != want || got != e {
			t.Errorf("Improve(%v): %v, %d; want %v, %d", x, change, got, want, e)
		}
	}
	if equal < 100 || none < 100 {
		t.Errorf("only %d tasks with equal gains, %d with none", equal, none)
	}
}

// TestLargestTask checks that a line and a catalog of the greatest sizes are no obstacle.
func TestLargestTask(t *testing.T) {
	x := task{s: api.Segment{Count: 30, Repeat: 1}}
	for i := range api.MaxGroups {
		x.c.Groups = append(x.c.Groups, api.Group{Name: "g" + strconv.Itoa(i), Limit: 5, Credit: 500})
	}
	for i := range api.MaxElements {
		x.c.Elements = append(x.c.Elements, api.Element{Code: "E" + strconv.Itoa(100+i), Group: x.c.Groups[i%6].Name, Value: int64(i)})
	}
	for i := range api.MaxItems {
		x.items = append(x.items, api.Item{Code: x.c.Elements[i].Code})
	}
	// The items have the values from 0 to 29, five of each group; the greatest value of the group g0, of which is the first item, is 396.
	if change, e := Improve(x.c, x.s, x.items); change != (Change{0, "E496", 396}) || e != api.OK {
		t.Errorf("Improve: %v, %d", change, e)
	}
}

// TestInvalidRules checks that no rules make the functions panic or run for ever.
func TestInvalidRules(t *testing.T) {
	loop := example(t, "3A<<<<<<<<< 2A< sp+sp*")
	loop.c.Elements[0].Lower = "3A"
	unknown := example(t, "3A 2A")
	unknown.c.Elements[2].Group = "turn"
	huge := example(t, "3A 2A")
	huge.c.Elements[0].Value, huge.c.Elements[1].Value = math.MinInt64, math.MaxInt64
	wide := example(t, "3A 2A sp")
	wide.s.Count, wide.s.Requires[0].Deduct = 3, math.MinInt64
	many := example(t, "3A")
	for i := range 5000 {
		many.c.Elements = append(many.c.Elements, api.Element{Code: "x" + strconv.Itoa(i), Group: "spin", Value: int64(i)})
	}
	for _, x := range []task{loop, unknown, huge, wide, many, {items: []api.Item{{Code: "A"}}}, {s: api.Segment{Count: -1, Repeat: math.MinInt}}} {
		before := x.copied()
		if r, e := Compute(x.c, x.s, x.items); e != api.OK && (r.Items != nil || r.Counted != nil || r.Worth != 0 || r.Connections != 0 || r.Deductions != 0) {
			t.Errorf("Compute: %v, %d", r, e)
		}
		if change, e := Improve(x.c, x.s, x.items); e != api.OK && change != (Change{}) {
			t.Errorf("Improve: %v, %d", change, e)
		}
		Lacking(x.s, nil, nil)
		Announced(x.s, []api.Announced{{Name: "fall", Count: math.MaxInt}})
		x.unchanged(t, before)
	}
}
