package matching

import (
	"math/rand"
	"slices"
	"testing"

	"salchow/api"
)

// covers returns all covers of a graph.
func covers(g api.Graph) []api.Cover {
	var list []api.Cover
	for _, left := range subsets(len(g.Left)) {
		for _, right := range subsets(len(g.Right)) {
			list = append(list, api.Cover{Left: left, Right: right})
		}
	}
	return list
}

// weight returns the weight of a cover, by the definition.
func weight(g api.Graph, c api.Cover) int {
	n := 0
	for i, capacity := range g.Left {
		if slices.Contains(c.Left, i) {
			n += capacity
		}
	}
	for i, capacity := range g.Right {
		if slices.Contains(c.Right, i) {
			n += capacity
		}
	}
	for _, edge := range g.Edges {
		if !slices.Contains(c.Left, edge[0]) && !slices.Contains(c.Right, edge[1]) {
			n++
		}
	}
	return n
}

// best returns the cover of the least weight with the most left and the fewest right vertices, and whether there is only one such.
func best(g api.Graph) (api.Cover, bool) {
	order := func(c, d api.Cover) int {
		return slices.Compare([]int{weight(g, c), -len(c.Left), len(c.Right)}, []int{weight(g, d), -len(d.Left), len(d.Right)})
	}
	all := covers(g)
	slices.SortStableFunc(all, order)
	return all[0], len(all) == 1 || order(all[0], all[1]) < 0
}

func equalCovers(c, d api.Cover) bool {
	return slices.Equal(c.Left, d.Left) && slices.Equal(c.Right, d.Right)
}

func TestCoverOfSmallGraphs(t *testing.T) {
	for n, g := range smallGraphs() {
		before := copied(g)
		want, only := best(g)
		if !only {
			t.Fatalf("graph %d: %v: several best covers", n, g)
		}
		if got, e := Cover(g); e != api.OK || !equalCovers(got, want) {
			t.Fatalf("graph %d: %v: Cover: %v, %d; want %v", n, g, got, e, want)
		}
		if size := len(greatest(g)[0]); weight(g, want) != size {
			t.Fatalf("graph %d: %v: the least weight is %d, the greatest size %d", n, g, weight(g, want), size)
		}
		if !equal(g, before) {
			t.Fatalf("graph %d was changed: %v, %v", n, before, g)
		}
	}
}

func TestWeight(t *testing.T) {
	for n, g := range smallGraphs() {
		if n%10 != 0 {
			continue
		}
		before := copied(g)
		for _, c := range covers(g) {
			left, right := slices.Clone(c.Left), slices.Clone(c.Right)
			if got, e := Weight(g, c); e != api.OK || got != weight(g, c) {
				t.Fatalf("graph %d: %v: Weight(%v): %d, %d; want %d", n, g, c, got, e, weight(g, c))
			}
			if !equal(g, before) || !equalCovers(c, api.Cover{Left: left, Right: right}) {
				t.Fatalf("graph %d: an argument of Weight was changed", n)
			}
		}
	}
	g := complete(16, 64, MaxCapacity, MaxCapacity)
	all := indices(g.Right, func(int) bool { return true })
	for _, c := range []struct {
		cover api.Cover
		want  int
	}{
		{api.Cover{}, MaxEdges},
		{api.Cover{Left: all[:16], Right: all}, 80 * MaxCapacity},
		{api.Cover{Left: all[:1], Right: all[:1]}, 2*MaxCapacity + 15*63},
		{api.Cover{Left: []int{15}, Right: []int{0, 63}}, 3*MaxCapacity + 15*62},
	} {
		if got, e := Weight(g, c.cover); e != api.OK || got != c.want {
			t.Errorf("Weight(%v): %d, %d; want %d", c.cover, got, e, c.want)
		}
	}
}

func TestErrorsOfCovers(t *testing.T) {
	g := complete(3, 3, 1, 1)
	edges, _ := Greatest(g)
	for _, list := range noLists {
		for _, c := range []api.Cover{{Left: list}, {Right: list}, {Left: []int{0, 1, 2}, Right: list}, {Left: list, Right: []int{0, 1, 2}}, {Left: list, Right: list}} {
			if w, e := Weight(g, c); w != 0 || e != api.ErrArgument {
				t.Errorf("Weight(%v): %d, %d", c, w, e)
			}
			if Proves(g, edges, c) {
				t.Errorf("%v is no cover, but proves", c)
			}
		}
	}
	// The sides may have different lengths.
	g = complete(1, 2, 1, 1)
	for _, c := range []api.Cover{{Left: []int{1}}, {Left: []int{0, 1}}, {Right: []int{2}}, {Right: []int{0, 1, 2}}} {
		if w, e := Weight(g, c); w != 0 || e != api.ErrArgument {
			t.Errorf("Weight(%v): %d, %d", c, w, e)
		}
	}
	if w, e := Weight(g, api.Cover{Right: []int{0, 1}}); w != 2 || e != api.OK {
		t.Errorf("Weight: %d, %d", w, e)
	}
	// An error of the graph is named first.
	g.Edges = append(g.Edges, g.Edges[0])
	if w, e := Weight(g, api.Cover{Left: []int{7}}); w != 0 || e != api.ErrTwice {
		t.Errorf("Weight: %d, %d", w, e)
	}
}

func TestProves(t *testing.T) {
	random := rand.New(rand.NewSource(6))
	proofs := 0
	for range 150 {
		g := randomGraph(random, 1+random.Intn(3), 1+random.Intn(3), random.Intn(7), 2)
		most := len(greatest(g)[0])
		for _, edges := range subsets(len(g.Edges)) {
			for _, c := range covers(g) {
				got := Proves(g, edges, c)
				if got != (fits(g, edges) && len(edges) == weight(g, c)) {
					t.Fatalf("%v: Proves(%v, %v): %v", g, edges, c, got)
				}
				if got && len(edges) != most {
					t.Fatalf("%v: %v is no greatest matching, but %v proves it", g, edges, c)
				}
				if got {
					proofs++
				}
			}
		}
	}
	if proofs < 150 {
		t.Errorf("only %d proofs", proofs)
	}
}

func TestCoverProvesGreatest(t *testing.T) {
	for n, g := range smallGraphs() {
		c, _ := Cover(g)
		for _, edges := range greatest(g) {
			if !Proves(g, edges, c) {
				t.Fatalf("graph %d: %v: %v does not prove %v", n, g, c, edges)
			}
		}
	}
}

// sum returns the sum of the capacities of some vertices.
func sum(capacities []int, vertices []int) int {
	n := 0
	for _, i := range vertices {
		n += capacities[i]
	}
	return n
}

// taken returns how much the right vertices can take from some left vertices.
func taken(g api.Graph, left []int) int {
	n := 0
	for i, capacity := range g.Right {
		edges := 0
		for _, edge := range g.Edges {
			if edge[1] == i && slices.Contains(left, edge[0]) {
				edges++
			}
		}
		n += min(capacity, edges)
	}
	return n
}

// checkViolator compares Violator with Cover and with what follows from it.
func checkViolator(t *testing.T, g api.Graph, size int) {
	t.Helper()
	all := indices(g.Left, func(int) bool { return true })
	c, _ := Cover(g)
	got, e := Violator(g)
	if size == sum(g.Left, all) {
		if e != api.ErrNone || len(got) != 0 {
			t.Fatalf("%v: Violator: %v, %d", g, got, e)
		}
		return
	}
	want := slices.DeleteFunc(all, func(i int) bool { return slices.Contains(c.Left, i) })
	if e != api.OK || !slices.Equal(got, want) || sum(g.Left, got) <= taken(g, got) {
		t.Fatalf("%v: Violator: %v, %d; the cover is %v", g, got, e, c)
	}
}

func TestViolator(t *testing.T) {
	for _, g := range smallGraphs() {
		checkViolator(t, g, len(greatest(g)[0]))
	}
	random := rand.New(rand.NewSource(7))
	for range 200 {
		g := randomGraph(random, 1+random.Intn(MaxVertices), 1+random.Intn(MaxVertices), random.Intn(MaxEdges), 1+random.Intn(9))
		checkViolator(t, g, sizeWith(g, 0, nil))
	}
}

func TestViolatorLeavesOutWhatFits(t *testing.T) {
	// The first two left vertices compete for one seat, the third one has its own, the fourth one needs none.
	g := api.Graph{Left: []int{1, 1, 1, 0}, Right: []int{1, 1}, Edges: [][2]int{{0, 0}, {1, 0}, {2, 1}, {3, 0}}}
	if got, e := Violator(g); e != api.OK || !slices.Equal(got, []int{0, 1}) {
		t.Errorf("Violator: %v, %d", got, e)
	}
	// A vertex without edges is one of its own.
	g = api.Graph{Left: []int{1, 2, 0}, Right: []int{1}, Edges: [][2]int{{0, 0}}}
	if got, e := Violator(g); e != api.OK || !slices.Equal(got, []int{1}) {
		t.Errorf("Violator: %v, %d", got, e)
	}
}

func TestResultsAreNewMemory(t *testing.T) {
	g := api.Graph{Left: []int{1, 2, 2, 1}, Right: []int{2, 1, 1, 3}, Edges: pairs(4, 4)[:9]}
	before := copied(g)
	scribble := func(list []int) {
		for i := range list[:cap(list)] {
			list[:cap(list)][i] = -7
		}
	}
	for range 2 {
		edges, _ := Greatest(g)
		scribble(edges)
		classes, _ := Classes(g)
		scribble(classes)
		violator, _ := Violator(g)
		scribble(violator)
		c, _ := Cover(g)
		right := slices.Clone(c.Right)
		scribble(c.Left)
		if !slices.Equal(c.Right, right) || !equal(g, before) {
			t.Fatalf("results share memory: %v, %v", c, g)
		}
		scribble(c.Right)
	}
	if c, e := Cover(g); e != api.OK || weight(g, c) != len(greatest(g)[0]) {
		t.Errorf("results share memory with later ones: %v", c)
	}
}
