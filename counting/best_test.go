package counting

import (
	"math/rand"
	"slices"
	"testing"

	"salchow/api"
)

func TestBest(t *testing.T) {
	x := example()
	for _, y := range []struct {
		count, repeat int
		items         []api.Recognized
		chosen        []int
		worth         int64
	}{
		{2, 1, x.items, []int{0, 2}, 4900},
		{1, 1, x.items, []int{0}, 3800},
		{2, 2, x.items, []int{0, 1}, 7100},
		{3, 2, x.items, []int{0, 1, 3}, 8200},
		{30, 1, x.items, []int{0, 2, 3}, 6000},
		{30, 30, x.items, []int{0, 1, 3}, 8200},
		{2, 1, nil, nil, 0},
		{2, 1, make([]api.Recognized, 30), nil, 0},
		{2, 1, []api.Recognized{{Code: "2A", Group: "jump", Value: 9000}, item("1A", "jump", 1100)}, []int{1}, 1600},
		// What adds nothing stands only before something that adds.
		{2, 1, []api.Recognized{item("a", "jump", 0)}, []int{0}, 500},
		{2, 1, []api.Recognized{item("a", "spin", 0)}, nil, 0},
		{2, 1, []api.Recognized{item("a", "jump", 0), item("b", "jump", 0)}, []int{0}, 500},
		{2, 1, []api.Recognized{item("a", "spin", 0), item("b", "jump", 0)}, []int{0, 1}, 500},
		{1, 1, []api.Recognized{item("a", "spin", 0), item("b", "jump", 0)}, []int{1}, 500},
		{2, 1, []api.Recognized{item("a", "jump", 0), item("b", "jump", 5)}, []int{0, 1}, 505},
		{2, 1, []api.Recognized{item("a", "jump", 5), item("b", "jump", 0)}, []int{0}, 505},
		{2, 1, []api.Recognized{item("b", "jump", 0), item("b", "jump", 5)}, []int{1}, 505},
		// The credit of a group is worth an item.
		{1, 1, []api.Recognized{item("a", "spin", 500), item("b", "jump", 0)}, []int{0}, 500},
		{1, 1, []api.Recognized{item("b", "jump", 0), item("a", "spin", 500)}, []int{0}, 500},
		{1, 1, []api.Recognized{item("b", "jump", 0), item("a", "spin", 501)}, []int{1}, 501},
		{1, 1, []api.Recognized{item("a", "spin", 499), item("b", "jump", 0)}, []int{1}, 500},
		{2, 1, []api.Recognized{item("a", "jump", 9), item("b", "jump", 8), item("c", "jump", 10)}, []int{0, 2}, 519},
	} {
		x.s, x.items = api.Segment{Count: y.count, Repeat: y.repeat}, y.items
		before := x.copied()
		b, e := Best(x.c, x.s, x.items)
		if !slices.Equal(b.Items, y.chosen) || b.Worth != y.worth || e != api.OK {
			t.Errorf("Best(%v): %v, %d; want %v, %d", x, b, e, y.chosen, y.worth)
		}
		if !slices.Equal(x.items, before.items) || !slices.Equal(x.c.Groups, before.c.Groups) {
			t.Error("the arguments have changed")
		}
	}
}

func TestCreditsOfBest(t *testing.T) {
	x := task{
		api.Catalog{Groups: []api.Group{{Name: "a", Limit: 2, Credit: 10}, {Name: "b", Limit: 2, Credit: 20}, {Name: "c", Limit: 2, Credit: 30}}},
		api.Segment{Count: 2, Repeat: 2},
		[]api.Recognized{item("A", "a", 15), item("A", "a", 14), item("B", "b", 4), item("C", "c", 1), item("C", "c", 2)},
	}
	for _, y := range []struct {
		count  int
		chosen []int
		worth  int64
	}{
		{1, []int{4}, 32}, {2, []int{0, 4}, 57}, {3, []int{0, 2, 4}, 81}, {4, []int{0, 1, 2, 4}, 95}, {5, []int{0, 1, 2, 3, 4}, 96},
	} {
		x.s.Count = y.count
		if b, e := Best(x.c, x.s, x.items); !slices.Equal(b.Items, y.chosen) || b.Worth != y.worth || e != api.OK {
			t.Errorf("Best of %d: %v, %d; want %v, %d", y.count, b, e, y.chosen, y.worth)
		}
	}
	x.c.Groups[0].Limit, x.s.Count = 1, 5
	if b, e := Best(x.c, x.s, x.items); !slices.Equal(b.Items, []int{0, 2, 3, 4}) || b.Worth != 82 || e != api.OK {
		t.Errorf("Best with a limit: %v, %d", b, e)
	}
}

func TestBestOfRandomTasks(t *testing.T) {
	random := rand.New(rand.NewSource(221))
	for range 3000 {
		x := randomTask(random, 10)
		var want api.Choice
		for _, chosen := range x.choices() {
			if x.worth(chosen) > want.Worth {
				want = api.Choice{Items: chosen, Worth: x.worth(chosen)}
			}
		}
		b, e := Best(x.c, x.s, x.items)
		if !slices.Equal(b.Items, want.Items) || b.Worth != want.Worth || e != api.OK {
			t.Errorf("Best(%v): %v, %d; want %v", x, b, e, want)
		}
	}
}

func TestWithin(t *testing.T) {
	x := example()
	x.c.Groups = append(x.c.Groups, api.Group{Name: "turn", Limit: 1, Credit: 900})
	for _, y := range []struct {
		count int
		set   []string
		want  int64
		ok    bool
	}{
		{2, nil, 4400, true},
		{2, []string{"spin"}, 4400, true},
		{2, []string{"jump"}, 4400, true},
		{2, []string{"jump", "spin"}, 4400, true},
		{2, []string{"spin", "jump"}, 4400, true},
		{2, []string{"spin", "jump", "spin", "spin", "jump"}, 4400, true},
		{1, nil, 3300, true},
		{1, []string{"jump"}, 3300, true},
		{1, []string{"spin"}, 1100, true},
		{1, []string{"jump", "spin"}, 0, false},
		{3, []string{"spin"}, 5500, true},
		{2, []string{"turn"}, 0, false},
		{2, []string{"jump", "turn"}, 0, false},
		{2, []string{"zoo"}, 0, false},
		{2, []string{"jump", ""}, 0, false},
		{2, []string{"Jump"}, 0, false},
		{2, []string{"2A"}, 0, false},
		{2, slices.Repeat([]string{"spin", "jump"}, 50000), 4400, true},
	} {
		x.s.Count = y.count
		before := slices.Clone(y.set)
		if sum, ok := Within(x.c, x.s, x.items, y.set); sum != y.want || ok != y.ok || !slices.Equal(y.set, before) {
			t.Errorf("Within of %d of %q: %d, %v; want %d, %v", y.count, y.set, sum, ok, y.want, y.ok)
		}
	}
	if sum, ok := Within(x.c, x.s, nil, nil); sum != 0 || !ok {
		t.Errorf("Within without items: %d, %v", sum, ok)
	}
	if sum, ok := Within(x.c, x.s, []api.Recognized{{Code: "2A", Group: "jump", Value: 5}}, []string{"jump"}); sum != 0 || ok {
		t.Errorf("Within without candidates: %d, %v", sum, ok)
	}
}

func TestWithinOfRandomTasks(t *testing.T) {
	random := rand.New(rand.NewSource(222))
	none := 0
	for range 1500 {
		x := randomTask(random, 9)
		list := x.choices()
		for subset := range 1 << len(x.c.Groups) {
			var set []string
			for i, g := range x.c.Groups {
				if subset&(1<<i) != 0 {
					set = append(set, g.Name)
				}
			}
			want, found := int64(0), false
			for _, chosen := range list {
				if !slices.ContainsFunc(set, func(group string) bool { return x.has(chosen, group) == 0 }) {
					want, found = max(want, x.values(chosen)), true
				}
			}
			if !found {
				none++
			}
			random.Shuffle(len(set), func(i, j int) { set[i], set[j] = set[j], set[i] })
			if sum, ok := Within(x.c, x.s, x.items, set); sum != want || ok != found {
				t.Errorf("Within(%v, %v): %d, %v; want %d, %v", x, set, sum, ok, want, found)
			}
		}
	}
	if none < 1000 {
		t.Errorf("only %d sets have no choice", none)
	}
}

func TestConsequences(t *testing.T) {
	random := rand.New(rand.NewSource(223))
	for range 2000 {
		x := randomTask(random, 25)
		best, e := Best(x.c, x.s, x.items)
		if e != api.OK || !Legal(x.c, x.s, x.items, best.Items) {
			t.Fatalf("Best(%v): %v, %d", x, best, e)
		}
		if worth, e := Worth(x.c, x.s, x.items, best.Items); worth != best.Worth || e != api.OK {
			t.Errorf("Worth of the best choice: %d, %d; want %d", worth, e, best.Worth)
		}
		y := x.copied()
		k := random.Intn(8)
		y.items = slices.Insert(y.items, random.Intn(len(y.items)+1), item("d"+string(rune('0'+k)), y.c.Groups[k%len(y.c.Groups)].Name, int64(random.Intn(9))))
		if more, e := Best(y.c, y.s, y.items); e != api.OK || more.Worth < best.Worth {
			t.Errorf("with one more item: %v, %d; before %v", more, e, best)
		}
		for _, less := range []func(y *task){
			func(y *task) { y.s.Count-- },
			func(y *task) { y.s.Repeat-- },
			func(y *task) { y.c.Groups[random.Intn(len(y.c.Groups))].Limit-- },
		} {
			y := x.copied()
			less(&y)
			if less, e := Best(y.c, y.s, y.items); less.Worth > best.Worth || e != api.OK && e != api.ErrRange {
				t.Errorf("with a smaller limit: %v, %d; before %v", less, e, best)
			}
		}
		checkOthers(t, x, best)
	}
}

// checkOthers checks that items that are no candidates change only the indices.
func checkOthers(t *testing.T, x task, best api.Choice) {
	t.Helper()
	var index []int
	y := task{x.c, x.s, nil}
	for i, z := range x.items {
		if z.Credited {
			index = append(index, i)
			y.items = append(y.items, z)
		}
	}
	without, e := Best(y.c, y.s, y.items)
	for i := range without.Items {
		without.Items[i] = index[without.Items[i]]
	}
	if e != api.OK || without.Worth != best.Worth || !slices.Equal(without.Items, best.Items) {
		t.Errorf("Best(%v) without the other items: %v, %d; want %v", x, without, e, best)
	}
}

func TestBestOfMostItems(t *testing.T) {
	x := task{s: api.Segment{Count: 30, Repeat: 30}}
	for _, name := range []string{"a", "b", "c", "d", "e", "f"} {
		x.c.Groups = append(x.c.Groups, api.Group{Name: name, Limit: 30, Credit: api.MaxMilli})
		x.items = append(x.items, slices.Repeat([]api.Recognized{item(name, name, api.MaxMilli)}, 5)...)
	}
	for count := 1; count <= 30; count++ {
		x.s.Count = count
		b, e := Best(x.c, x.s, x.items)
		if want := int64(count+min(count, 6)) * api.MaxMilli; b.Worth != want || len(b.Items) != count || e != api.OK {
			t.Errorf("Best of %d: %v, %d; want %d", count, b, e, want)
		}
	}
}

func TestResultsShareNoMemory(t *testing.T) {
	x := example()
	a, _ := Best(x.c, x.s, x.items)
	b, _ := Best(x.c, x.s, x.items)
	a.Items[0] = 7
	if b.Items[0] != 0 {
		t.Error("choices share memory")
	}
	p, _ := Certify(x.c, x.s, x.items)
	q, _ := Certify(x.c, x.s, x.items)
	for i := range p {
		for _, list := range [][]api.Priced{p[i].Codes, p[i].Limits, p[i].Subsidies} {
			for j := range list {
				list[j] = api.Priced{Name: "x", Price: -1}
			}
		}
		for j := range p[i].Set {
			p[i].Set[j] = "x"
		}
	}
	if bound(t, x, q[0]) != 4400 || bound(t, x, q[1]) != 4900 || x.c.Groups[0].Name != "jump" {
		t.Error("certificates share memory")
	}
}
