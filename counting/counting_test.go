package counting

import (
	"math"
	"math/rand"
	"reflect"
	"slices"
	"strconv"
	"testing"

	"salchow/api"
)

// task is what a choice is made from.
type task struct {
	c     api.Catalog
	s     api.Segment
	items []api.Recognized
}

// item returns a credited item.
func item(code, group string, value int64) api.Recognized {
	return api.Recognized{Credited: true, Code: code, Group: group, Value: value}
}

// example returns the task of the examples.
func example() task {
	return task{
		api.Catalog{Groups: []api.Group{{Name: "jump", Limit: 2, Credit: 500}, {Name: "spin", Limit: 1}}},
		api.Segment{Count: 2, Repeat: 1},
		[]api.Recognized{item("2A", "jump", 3300), item("2A", "jump", 3300), item("1A", "jump", 1100), item("Sp", "spin", 1100)},
	}
}

// copied returns a copy of a task that shares no memory with it.
func (x task) copied() task {
	return task{api.Catalog{Groups: slices.Clone(x.c.Groups)}, x.s, slices.Clone(x.items)}
}

// choices returns all choices that the limits allow, by the definition, the first one first.
func (x task) choices() [][]int {
	var list [][]int
	var add func(chosen []int)
	add = func(chosen []int) {
		if !x.allows(chosen) {
			return
		}
		list = append(list, slices.Clone(chosen))
		next := 0
		if len(chosen) > 0 {
			next = chosen[len(chosen)-1] + 1
		}
		for i := next; i < len(x.items); i++ {
			if x.items[i].Credited {
				add(append(slices.Clone(chosen), i))
			}
		}
	}
	add(nil)
	return list
}

// count returns how many of the chosen items a condition selects.
func (x task) count(chosen []int, selected func(api.Recognized) bool) int {
	n := 0
	for _, i := range chosen {
		if selected(x.items[i]) {
			n++
		}
	}
	return n
}

// allows reports whether the limits allow an increasing list of candidates.
func (x task) allows(chosen []int) bool {
	for _, i := range chosen {
		if x.count(chosen, func(y api.Recognized) bool { return y.Code == x.items[i].Code }) > x.s.Repeat {
			return false
		}
	}
	for _, g := range x.c.Groups {
		if x.has(chosen, g.Name) > g.Limit {
			return false
		}
	}
	return len(chosen) <= x.s.Count
}

// has returns how many of the chosen items belong to a group.
func (x task) has(chosen []int, group string) int {
	return x.count(chosen, func(y api.Recognized) bool { return y.Group == group })
}

// values returns the sum of the values of a choice.
func (x task) values(chosen []int) int64 {
	var sum int64
	for _, i := range chosen {
		sum += x.items[i].Value
	}
	return sum
}

// worth returns the worth of a choice, by the definition.
func (x task) worth(chosen []int) int64 {
	sum := x.values(chosen)
	for _, g := range x.c.Groups {
		if x.has(chosen, g.Name) > 0 {
			sum += g.Credit
		}
	}
	return sum
}

// randomTask returns a task with so many items at most.
func randomTask(random *rand.Rand, most int) task {
	var x task
	for i := range 1 + random.Intn(4) {
		x.c.Groups = append(x.c.Groups, api.Group{Name: "g" + strconv.Itoa(i), Limit: 1 + random.Intn(4), Credit: int64(random.Intn(2) * random.Intn(8))})
	}
	x.s = api.Segment{Count: 1 + random.Intn(6), Repeat: 1 + random.Intn(3)}
	codes := 1 + random.Intn(8)
	for range random.Intn(most + 1) {
		k := random.Intn(codes)
		y := item("c"+strconv.Itoa(k), "g"+strconv.Itoa(k%len(x.c.Groups)), int64(random.Intn(6)))
		if random.Intn(6) == 0 {
			y.Credited = false
		}
		x.items = append(x.items, y)
	}
	return x
}

func TestCheckOfExample(t *testing.T) {
	x := example()
	if e := Check(x.c, x.s, x.items); e != api.OK {
		t.Errorf("Check: %d", e)
	}
	if e := Check(api.Catalog{}, x.s, nil); e != api.OK {
		t.Errorf("Check without groups: %d", e)
	}
	// Only candidates have to have a group and a value.
	x.items = append(x.items, api.Recognized{Code: "2A", Group: "spin", Value: -1}, api.Recognized{Group: "zoo", Value: math.MaxInt64}, api.Recognized{})
	if e := Check(x.c, x.s, x.items); e != api.OK {
		t.Errorf("Check with items that are no candidates: %d", e)
	}
	// The names may be any.
	x = task{api.Catalog{Groups: []api.Group{{Name: "", Limit: 1}, {Name: "\x00 ", Limit: 30, Credit: api.MaxMilli}}}, api.Segment{Count: 30, Repeat: 30}, []api.Recognized{item("", "", api.MaxMilli), item("", "", 0), item(" ", "\x00 ", 0)}}
	if e := Check(x.c, x.s, x.items); e != api.OK {
		t.Errorf("Check with other names: %d", e)
	}
}

// faults returns changes that make the example invalid, by their errors.
func faults() map[api.Errno][]func(x *task) {
	group := func(change func(g *api.Group)) func(x *task) {
		return func(x *task) { change(&x.c.Groups[1]) }
	}
	add := func(y api.Recognized) func(x *task) {
		return func(x *task) { x.items = append(x.items, y) }
	}
	return map[api.Errno][]func(x *task){
		api.ErrLimit: {
			func(x *task) { x.items = append(x.items, make([]api.Recognized, 27)...) },
			func(x *task) { x.items = append(x.items, make([]api.Recognized, 10000)...) },
			func(x *task) {
				for i := range 5 {
					x.c.Groups = append(x.c.Groups, api.Group{Name: "t" + strconv.Itoa(i), Limit: 1})
				}
			},
		},
		api.ErrRange: {
			func(x *task) { x.s.Count = 0 }, func(x *task) { x.s.Count = 31 }, func(x *task) { x.s.Count = math.MinInt }, func(x *task) { x.s.Count = math.MaxInt },
			func(x *task) { x.s.Repeat = 0 }, func(x *task) { x.s.Repeat = 31 }, func(x *task) { x.s.Repeat = -1 },
			group(func(g *api.Group) { g.Limit = 0 }), group(func(g *api.Group) { g.Limit = 31 }), group(func(g *api.Group) { g.Limit = math.MinInt }),
			group(func(g *api.Group) { g.Credit = -1 }), group(func(g *api.Group) { g.Credit = api.MaxMilli + 1 }), group(func(g *api.Group) { g.Credit = math.MaxInt64 }),
			add(item("1A", "jump", -1)), add(item("1A", "jump", api.MaxMilli+1)), add(item("1A", "jump", math.MinInt64)),
		},
		api.ErrTwice: {
			group(func(g *api.Group) { g.Name = "jump" }), group(func(g *api.Group) { g.Name = "jum" }), group(func(g *api.Group) { g.Name = "" }),
			func(x *task) { x.c.Groups = append(x.c.Groups, api.Group{Name: "jump", Limit: 1}) },
			func(x *task) { x.c.Groups = append(x.c.Groups, api.Group{Name: "spin", Limit: 1}) },
		},
		api.ErrName: {
			add(item("3A", "zoo", 1)), add(item("3A", "", 1)), add(item("3A", "Jump", 1)), add(item("2A", "jump ", 1)),
		},
		api.ErrConflict: {
			add(item("2A", "spin", 1)), add(item("Sp", "jump", 1)), add(item("1A", "spin", 0)),
		},
	}
}

// order has the errors of Check in their order.
var order = []api.Errno{api.ErrLimit, api.ErrRange, api.ErrTwice, api.ErrName, api.ErrConflict}

// checkFault checks that all functions refuse a task with an error.
func checkFault(t *testing.T, x task, want api.Errno) {
	t.Helper()
	before := x.copied()
	if e := Check(x.c, x.s, x.items); e != want {
		t.Errorf("Check(%v): %d; want %d", x, e, want)
	}
	if Legal(x.c, x.s, x.items, nil) || Legal(x.c, x.s, x.items, []int{0}) {
		t.Errorf("Legal(%v)", x)
	}
	for _, chosen := range [][]int{nil, {0}, {0, 1}, {-1}} {
		if worth, e := Worth(x.c, x.s, x.items, chosen); worth != 0 || e != want {
			t.Errorf("Worth(%v): %d, %d", x, worth, e)
		}
	}
	if b, e := Best(x.c, x.s, x.items); b.Items != nil || b.Worth != 0 || e != want {
		t.Errorf("Best(%v): %v, %d", x, b, e)
	}
	if sum, ok := Within(x.c, x.s, x.items, nil); sum != 0 || ok {
		t.Errorf("Within(%v): %d, %v", x, sum, ok)
	}
	if cert, e := Certify(x.c, x.s, x.items); cert != nil || e != want {
		t.Errorf("Certify(%v): %v, %d", x, cert, e)
	}
	if !reflect.DeepEqual(x.c.Groups, before.c.Groups) || !slices.Equal(x.items, before.items) {
		t.Error("the arguments have changed")
	}
}

func TestFaults(t *testing.T) {
	for i, e := range order {
		for _, change := range faults()[e] {
			x := example()
			change(&x)
			checkFault(t, x, e)
			// An error comes before all the later ones.
			for _, later := range order[i+1:] {
				for _, other := range faults()[later] {
					y := example()
					other(&y)
					change(&y)
					checkFault(t, y, e)
				}
			}
		}
	}
}

func TestLimitsOfCheck(t *testing.T) {
	x := example()
	x.items = append(x.items, make([]api.Recognized, api.MaxItems-4)...)
	x.c.Groups = append(x.c.Groups, api.Group{Name: "t", Limit: 30, Credit: api.MaxMilli}, api.Group{Name: "u", Limit: 1}, api.Group{Name: "v", Limit: 1}, api.Group{Name: "w", Limit: 1})
	x.items[29] = item("T", "t", api.MaxMilli)
	for _, n := range []int{1, 30} {
		x.s.Count, x.s.Repeat = n, n
		if e := Check(x.c, x.s, x.items); e != api.OK {
			t.Errorf("Check with %d: %d", n, e)
		}
	}
	x.items[28] = item("T", "w", 1)
	if e := Check(x.c, x.s, x.items); e != api.ErrConflict {
		t.Errorf("Check with two groups of a code: %d", e)
	}
	x.items[0].Group = "x"
	if e := Check(x.c, x.s, x.items); e != api.ErrName {
		t.Errorf("Check with an unknown group, too: %d", e)
	}
	x.items[0].Group, x.items[27] = "jump", item("U", "x", 1)
	if e := Check(x.c, x.s, x.items); e != api.ErrName {
		t.Errorf("Check with an unknown group before the conflict: %d", e)
	}
}

func TestLegal(t *testing.T) {
	x := example()
	x.items = append(x.items, api.Recognized{}, api.Recognized{Code: "1A", Group: "jump", Value: 5}, item("Sq", "spin", 7))
	for _, y := range []struct {
		chosen []int
		want   bool
		worth  int64
	}{
		{nil, true, 0}, {[]int{}, true, 0},
		{[]int{0}, true, 3800}, {[]int{3}, true, 1100}, {[]int{6}, true, 7},
		{[]int{0, 2}, true, 4900}, {[]int{0, 3}, true, 4900}, {[]int{1, 2}, true, 4900}, {[]int{1, 6}, true, 3807},
		{[]int{0, 1}, false, 0}, {[]int{3, 6}, false, 0}, {[]int{0, 2, 3}, false, 0},
		{[]int{2, 0}, false, 0}, {[]int{0, 0}, false, 0}, {[]int{3, 3}, false, 0},
		{[]int{4}, false, 0}, {[]int{5}, false, 0}, {[]int{0, 5}, false, 0},
		{[]int{-1}, false, 0}, {[]int{-1, 0}, false, 0}, {[]int{7}, false, 0}, {[]int{0, 7}, false, 0}, {[]int{math.MaxInt}, false, 0}, {[]int{math.MinInt}, false, 0},
		{make([]int, 100000), false, 0},
	} {
		before := slices.Clone(y.chosen)
		if got := Legal(x.c, x.s, x.items, y.chosen); got != y.want {
			t.Errorf("Legal(%v): %v", y.chosen, got)
		}
		worth, e := Worth(x.c, x.s, x.items, y.chosen)
		if worth != y.worth || y.want != (e == api.OK) || !y.want && e != api.ErrArgument {
			t.Errorf("Worth(%v): %d, %d", y.chosen, worth, e)
		}
		if !slices.Equal(y.chosen, before) {
			t.Error("the choice has changed")
		}
	}
	x.s = api.Segment{Count: 4, Repeat: 2}
	if !Legal(x.c, x.s, x.items, []int{0, 1, 3}) || Legal(x.c, x.s, x.items, []int{0, 1, 2}) {
		t.Error("Legal with a greater Repeat")
	}
	x.c.Groups[0].Limit = 3
	if worth, e := Worth(x.c, x.s, x.items, []int{0, 1, 2, 6}); worth != 3300+3300+1100+7+500 || e != api.OK {
		t.Errorf("Worth with a greater Limit: %d, %d", worth, e)
	}
}

func TestLegalOfRandomTasks(t *testing.T) {
	random := rand.New(rand.NewSource(220))
	for range 300 {
		x := randomTask(random, 8)
		list := x.choices()
		allowed := 0
		for set := range 1 << len(x.items) {
			var chosen []int
			for i := range x.items {
				if set&(1<<i) != 0 {
					chosen = append(chosen, i)
				}
			}
			legal := Legal(x.c, x.s, x.items, chosen)
			worth, e := Worth(x.c, x.s, x.items, chosen)
			switch {
			case legal && (e != api.OK || worth != x.worth(chosen)), !legal && (e != api.ErrArgument || worth != 0):
				t.Errorf("Worth(%v, %v): %d, %d", x, chosen, worth, e)
			case legal:
				allowed++
			}
		}
		for _, chosen := range list {
			if !Legal(x.c, x.s, x.items, chosen) {
				t.Errorf("Legal(%v, %v)", x, chosen)
			}
		}
		if allowed != len(list) {
			t.Errorf("%v allows %d choices; want %d", x, allowed, len(list))
		}
	}
}
