package difficulty

import (
	"math/rand"
	"reflect"
	"slices"
	"strconv"
	"strings"
	"testing"

	"salchow/api"
	"salchow/catalog"
	"salchow/notation"
)

// task is a line in a segment.
type task struct {
	c     api.Catalog
	s     api.Segment
	items []api.Item
}

// example returns the catalog and the segment of the examples, and a line.
func example(t *testing.T, line string) task {
	t.Helper()
	items, fault := notation.Parse(line)
	if fault != (api.Fault{}) {
		t.Fatalf("Parse(%q): %v", line, fault)
	}
	return task{
		api.Catalog{
			Groups:   []api.Group{{Name: "jump", Limit: 2, Credit: 500}, {Name: "spin", Limit: 1}},
			Classes:  []string{"c"},
			Elements: []api.Element{{Code: "2A", Group: "jump", Value: 3300}, {Code: "3A", Group: "jump", Value: 8000, Lower: "2A"}, {Code: "sp", Group: "spin", Value: 2000}},
		},
		api.Segment{
			Count:     3,
			Repeat:    1,
			Requires:  []api.Require{{Group: "spin", Least: 1, Deduct: 1000}},
			Penalties: []api.Penalty{{Name: "fall", Value: 1000, Most: 30}, {Name: "line", Value: 100, Most: 5}, {Name: "time", Value: 0, Most: 1}},
		},
		items,
	}
}

// copied returns a copy of a task that shares no memory with it.
func (x task) copied() task {
	c := api.Catalog{Groups: slices.Clone(x.c.Groups), Classes: slices.Clone(x.c.Classes), Elements: slices.Clone(x.c.Elements), Connects: slices.Clone(x.c.Connects)}
	s := x.s
	s.Requires, s.Penalties = slices.Clone(s.Requires), slices.Clone(s.Penalties)
	return task{c, s, slices.Clone(x.items)}
}

// unchanged checks that a task is still as it was.
func (x task) unchanged(t *testing.T, before task) {
	t.Helper()
	if !reflect.DeepEqual(x, before) {
		t.Errorf("the task %v has become %v", before, x)
	}
}

// randomTask returns a task with a valid catalog and a line of some elements of it.
func randomTask(t *testing.T, random *rand.Rand, most int) task {
	t.Helper()
	x := task{s: api.Segment{Count: 1 + random.Intn(5), Repeat: 1 + random.Intn(2), Connections: int64(random.Intn(4) * 5)}}
	x.c.Classes = []string{"c", "d"}
	for i := range 1 + random.Intn(3) {
		name := "g" + strconv.Itoa(i)
		x.c.Groups = append(x.c.Groups, api.Group{Name: name, Limit: 1 + random.Intn(3), Credit: int64(random.Intn(2) * random.Intn(8))})
		if random.Intn(2) == 0 {
			x.s.Requires = append(x.s.Requires, api.Require{Group: name, Least: 1 + random.Intn(2), Deduct: int64(random.Intn(12))})
		}
	}
	for i := range random.Intn(8) {
		y := api.Element{Code: string(rune('A'+random.Intn(26))) + strconv.Itoa(i), Group: x.c.Groups[random.Intn(len(x.c.Groups))].Name, Class: []string{"", "c", "d"}[random.Intn(3)], Value: int64(random.Intn(10))}
		if i > 0 && random.Intn(2) == 0 {
			lower := x.c.Elements[random.Intn(i)]
			y.Lower, y.Value = lower.Code, lower.Value+int64(random.Intn(4))
		}
		x.c.Elements = append(x.c.Elements, y)
	}
	slices.SortFunc(x.c.Elements, func(a, b api.Element) int { return strings.Compare(a.Code, b.Code) })
	for _, first := range x.c.Classes {
		for _, second := range x.c.Classes {
			if random.Intn(2) == 0 {
				x.c.Connects = append(x.c.Connects, api.Connect{First: first, Second: second, Value: int64(random.Intn(6))})
			}
		}
	}
	if e := catalog.Check(x.c); e != api.OK {
		t.Fatalf("Check(%v): %d", x.c, e)
	}
	for range random.Intn(most + 1) {
		x.items = append(x.items, x.randomItem(random))
	}
	if len(x.items) > 0 {
		x.items[len(x.items)-1].Joined = false
	}
	return x
}

// randomItem returns an item, mostly of an element of the catalog.
func (x task) randomItem(random *rand.Rand) api.Item {
	y := api.Item{Code: "Q", Down: max(0, random.Intn(6)-3), Review: random.Intn(4) == 0, Void: random.Intn(6) == 0, Joined: random.Intn(2) == 0}
	if len(x.c.Elements) > 0 && random.Intn(8) > 0 {
		y.Code = x.c.Elements[random.Intn(len(x.c.Elements))].Code
	}
	return y
}
