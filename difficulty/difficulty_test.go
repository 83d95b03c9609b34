package difficulty

import (
	"math"
	"math/rand"
	"reflect"
	"slices"
	"testing"

	"salchow/api"
	"salchow/connection"
	"salchow/counting"
	"salchow/notation"
	"salchow/recognize"
)

func TestCompute(t *testing.T) {
	for _, y := range []struct {
		line       string
		counted    []int
		worth      int64
		deductions int64
	}{
		{"3A 2A", []int{0, 1}, 11800, 1000},
		{"3A 2A sp", []int{0, 1, 2}, 13800, 0},
		{"3A 3A", []int{0}, 8500, 1000},
		{"3A sp", []int{0, 1}, 10500, 0},
		{"sp sp", []int{0}, 2000, 0},
		{"3A 3A< sp", []int{0, 1, 2}, 13800, 0},
		{"3A<", []int{0}, 3800, 1000},
		{"3A<< sp*", nil, 0, 1000},
		{"3A? sp?", []int{0, 1}, 10500, 0},
		{"4Z 3A+sp", []int{1, 2}, 10500, 0},
		{"", nil, 0, 1000},
	} {
		x := example(t, y.line)
		before := x.copied()
		r, e := Compute(x.c, x.s, x.items)
		line, _ := recognize.Line(x.c, x.items)
		want := Result{line, y.counted, y.worth, 0, y.deductions}
		if !slices.Equal(r.Items, want.Items) || !slices.Equal(r.Counted, want.Counted) || r.Worth != want.Worth || r.Connections != 0 || r.Deductions != want.Deductions || e != api.OK {
			t.Errorf("Compute(%q): %v, %d; want %v", y.line, r, e, want)
		}
		x.unchanged(t, before)
	}
}

func TestConnections(t *testing.T) {
	x := example(t, "3A+2A+3A sp")
	x.c.Classes = []string{"c", "d"}
	x.c.Elements[0].Class, x.c.Elements[1].Class = "c", "d"
	x.c.Connects = []api.Connect{{First: "c", Second: "d", Value: 300}, {First: "d", Second: "c", Value: 40}}
	for _, y := range []struct{ most, want int64 }{{0, 0}, {339, 339}, {340, 340}, {341, 340}, {api.MaxMilli, 340}} {
		x.s.Connections = y.most
		// Items that do not count are connected, too.
		r, e := Compute(x.c, x.s, x.items)
		if r.Connections != y.want || r.Worth != 13800 || !slices.Equal(r.Counted, []int{0, 1, 3}) || r.Deductions != 0 || e != api.OK {
			t.Errorf("Compute with at most %d: %v, %d", y.most, r, e)
		}
		if total, e := Total(r); total != milli(t, 13800+y.want) || e != api.OK {
			t.Errorf("Total(%v): %v, %d", r, total, e)
		}
	}
}

// milli returns thousandths as a fraction.
func milli(t *testing.T, n int64) api.Frac {
	t.Helper()
	for d := int64(1000); d > 0; d-- {
		if n%d == 0 && 1000%d == 0 {
			return api.Frac{Num: n / d, Den: 1000 / d}
		}
	}
	t.Fatal(n)
	return api.Frac{}
}

func TestRequirements(t *testing.T) {
	x := example(t, "3A 2A sp")
	for _, y := range []struct {
		requires   []api.Require
		deductions int64
	}{
		{nil, 0},
		{[]api.Require{{Group: "jump", Least: 2, Deduct: 7}, {Group: "spin", Least: 1, Deduct: 50}}, 0},
		{[]api.Require{{Group: "jump", Least: 3, Deduct: 7}, {Group: "spin", Least: 1, Deduct: 50}}, 7},
		{[]api.Require{{Group: "jump", Least: 2, Deduct: 7}, {Group: "spin", Least: 2, Deduct: 50}}, 50},
		{[]api.Require{{Group: "jump", Least: 3, Deduct: 7}, {Group: "spin", Least: 30, Deduct: 50}}, 57},
		{[]api.Require{{Group: "jump", Least: 3, Deduct: 0}, {Group: "spin", Least: 2, Deduct: api.MaxMilli}}, api.MaxMilli},
	} {
		x.s.Requires = y.requires
		if r, e := Compute(x.c, x.s, x.items); r.Deductions != y.deductions || r.Worth != 13800 || e != api.OK {
			t.Errorf("Compute with %v: %v, %d; want %d", y.requires, r, e, y.deductions)
		}
	}
	// Only counted items meet a requirement.
	x = example(t, "3A 3A sp")
	x.s.Requires = []api.Require{{Group: "jump", Least: 2, Deduct: 7}}
	if r, e := Compute(x.c, x.s, x.items); r.Deductions != 7 || e != api.OK {
		t.Errorf("Compute with an item that does not count: %v, %d", r, e)
	}
}

func TestComputeOfRandomTasks(t *testing.T) {
	random := rand.New(rand.NewSource(241))
	for range 1500 {
		x := randomTask(t, random, 12)
		r, e := Compute(x.c, x.s, x.items)
		line, _ := recognize.Line(x.c, x.items)
		best, _ := counting.Best(x.c, x.s, line)
		sum, _ := connection.Sum(x.c, x.s, line)
		var deductions int64
		for _, y := range x.s.Requires {
			n := 0
			for _, i := range best.Items {
				if line[i].Group == y.Group {
					n++
				}
			}
			if n < y.Least {
				deductions += y.Deduct
			}
		}
		if !slices.Equal(r.Items, line) || !slices.Equal(r.Counted, best.Items) || r.Worth != best.Worth || r.Connections != sum || r.Deductions != deductions || e != api.OK {
			t.Errorf("Compute(%v): %v, %d; want %v, %v, %d, %d", x, r, e, line, best, sum, deductions)
		}
		if total, e := Total(r); total != milli(t, r.Worth+r.Connections) || e != api.OK {
			t.Errorf("Total(%v): %v, %d", r, total, e)
		}
	}
}

func TestImproperItems(t *testing.T) {
	long := slices.Repeat([]api.Item{{Code: "2A"}}, api.MaxItems+1)
	long[0].Code = "?"
	for i, y := range []struct {
		items []api.Item
		want  api.Errno
	}{
		{long, api.ErrLimit},
		{[]api.Item{{Code: "2A", Down: -1}, {Code: "?"}}, api.ErrName},
		{[]api.Item{{Code: ""}}, api.ErrName},
		{[]api.Item{{Code: "2A", Down: -1}}, api.ErrRange},
		{[]api.Item{{Code: "2A", Down: notation.MaxDown + 1, Joined: true}}, api.ErrRange},
		{[]api.Item{{Code: "2A", Joined: true}}, api.ErrOrder},
	} {
		x := example(t, "")
		if r, e := Compute(x.c, x.s, y.items); !reflect.DeepEqual(r, Result{}) || e != y.want {
			t.Errorf("%d: Compute: %v, %d; want %d", i, r, e, y.want)
		}
		if change, e := Improve(x.c, x.s, y.items); change != (Change{}) || e != y.want {
			t.Errorf("%d: Improve: %v, %d; want %d", i, change, e, y.want)
		}
	}
	x := example(t, "")
	if r, e := Compute(x.c, x.s, slices.Repeat([]api.Item{{Code: "2A", Down: 0}}, api.MaxItems)); len(r.Items) != api.MaxItems || r.Worth != 3800 || e != api.OK {
		t.Errorf("Compute of most items: %v, %d", r, e)
	}
}

func TestTotal(t *testing.T) {
	for _, y := range []struct {
		worth, connections int64
		want               api.Frac
		e                  api.Errno
	}{
		{0, 0, api.Frac{Num: 0, Den: 1}, api.OK},
		{11800, 200, api.Frac{Num: 12, Den: 1}, api.OK},
		{11800, 0, api.Frac{Num: 59, Den: 5}, api.OK},
		{1, 0, api.Frac{Num: 1, Den: 1000}, api.OK},
		{0, 5, api.Frac{Num: 1, Den: 200}, api.OK},
		{1000000000, 1000000000, api.Frac{Num: 2000000, Den: 1}, api.OK},
		{1000000001, 0, api.Frac{}, api.ErrRange},
		{0, 1000000001, api.Frac{}, api.ErrRange},
		{-1, 0, api.Frac{}, api.ErrRange},
		{0, -1, api.Frac{}, api.ErrRange},
		{-1, 1, api.Frac{}, api.ErrRange},
		{5, -1, api.Frac{}, api.ErrRange},
		{math.MaxInt64, math.MinInt64, api.Frac{}, api.ErrRange},
		{math.MinInt64, math.MaxInt64, api.Frac{}, api.ErrRange},
	} {
		// Deductions and items have no influence on the difficulty.
		for _, r := range []Result{{Worth: y.worth, Connections: y.connections}, {make([]api.Recognized, 2), []int{7}, y.worth, y.connections, -5}} {
			if total, e := Total(r); total != y.want || e != y.e {
				t.Errorf("Total(%v): %v, %d; want %v, %d", r, total, e, y.want, y.e)
			}
		}
	}
}

func TestLacking(t *testing.T) {
	items := []api.Recognized{{Credited: true, Group: "a"}, {Group: "a"}, {Credited: true, Group: "b"}, {Credited: true, Group: "a"}}
	s := api.Segment{Requires: []api.Require{{Group: "a", Least: 2, Deduct: 1}, {Group: "b", Least: 1, Deduct: 2}, {Group: "c", Least: 1, Deduct: 3}}}
	for _, y := range []struct {
		counted []int
		want    string
		e       api.Errno
	}{
		{nil, "abc", api.OK},
		{[]int{0}, "abc", api.OK},
		{[]int{0, 3}, "bc", api.OK},
		{[]int{2}, "ac", api.OK},
		{[]int{0, 2, 3}, "c", api.OK},
		{[]int{-1}, "", api.ErrArgument},
		{[]int{4}, "", api.ErrArgument},
		{[]int{0, 2, 3, 4}, "", api.ErrArgument},
		{[]int{1}, "", api.ErrArgument},
		{[]int{0, 1, 2}, "", api.ErrArgument},
		{[]int{0, 0}, "", api.ErrArgument},
		{[]int{2, 0}, "", api.ErrArgument},
		{[]int{0, 3, 2}, "", api.ErrArgument},
		{[]int{math.MinInt, math.MaxInt}, "", api.ErrArgument},
		{[]int{math.MaxInt}, "", api.ErrArgument},
	} {
		list, e := Lacking(s, items, y.counted)
		groups := ""
		for i, x := range list {
			groups += x.Group
			if !slices.Contains(s.Requires, x) {
				t.Errorf("Lacking(%v): %v", y.counted, x)
			}
			list[i] = api.Require{}
		}
		if groups != y.want || e != y.e {
			t.Errorf("Lacking(%v): %q, %d; want %q, %d", y.counted, groups, e, y.want, y.e)
		}
	}
	if list, e := Lacking(api.Segment{}, nil, nil); len(list) != 0 || e != api.OK {
		t.Errorf("Lacking of nothing: %v, %d", list, e)
	}
	if s.Requires[0].Group != "a" || s.Requires[2].Least != 1 {
		t.Errorf("the requirements have become %v", s.Requires)
	}
}

func TestResultsShareNoMemory(t *testing.T) {
	x := example(t, "3A 2A sp")
	a, _ := Compute(x.c, x.s, x.items)
	a.Items[0], a.Counted[0] = api.Recognized{}, 9
	if b, e := Compute(x.c, x.s, x.items); b.Items[0].Code != "3A" || b.Counted[0] != 0 || e != api.OK {
		t.Errorf("results share memory: %v, %d", b, e)
	}
}

// TestConsequences checks that the difficulty is at least the value of each item, and how other items change it.
func TestConsequences(t *testing.T) {
	random := rand.New(rand.NewSource(242))
	for range 1500 {
		x := randomTask(t, random, 12)
		before, e := Compute(x.c, x.s, x.items)
		if e != api.OK {
			t.Fatal(e)
		}
		total := before.Worth + before.Connections
		for i, y := range before.Items {
			if y.Value > total {
				t.Errorf("Compute(%v): %v, an item is worth %d", x, before, y.Value)
			}
			if !y.Credited {
				z := x.copied()
				z.items[i] = api.Item{Code: "Z" + z.items[i].Code[:1], Review: true, Joined: z.items[i].Joined}
				if after, e := Compute(z.c, z.s, z.items); after.Worth+after.Connections != total || e != api.OK {
					t.Errorf("Compute(%v): %v, %d; want %d", z, after, e, total)
				}
			}
		}
		z := x.copied()
		z.items = append(z.items, z.randomItem(random))
		z.items[len(z.items)-1].Joined = false
		if after, e := Compute(z.c, z.s, z.items); after.Worth+after.Connections < total || e != api.OK {
			t.Errorf("Compute(%v): %v, %d; before %d", z, after, e, total)
		}
	}
}
