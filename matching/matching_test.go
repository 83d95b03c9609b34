package matching

import (
	"math"
	"math/rand"
	"slices"
	"testing"

	"salchow/api"
)

// pairs returns all edges between so many left and right vertices.
func pairs(left, right int) [][2]int {
	var list [][2]int
	for u := range left {
		for v := range right {
			list = append(list, [2]int{u, v})
		}
	}
	return list
}

// arrangements returns all lists of different edges of a list, in all orders.
func arrangements(edges [][2]int) [][][2]int {
	all := [][][2]int{nil}
	for at := 0; at < len(all); at++ {
		for _, edge := range edges {
			if !slices.Contains(all[at], edge) {
				all = append(all, append(slices.Clone(all[at]), edge))
			}
		}
	}
	return all
}

// capacities returns all lists of so many numbers up to most.
func capacities(length, most int) [][]int {
	all := [][]int{nil}
	for range length {
		var longer [][]int
		for _, list := range all {
			for n := range most + 1 {
				longer = append(longer, append(slices.Clone(list), n))
			}
		}
		all = longer
	}
	return all
}

// randomGraph returns a graph of a size with capacities up to most.
func randomGraph(random *rand.Rand, left, right, edges, most int) api.Graph {
	var g api.Graph
	for range left {
		g.Left = append(g.Left, random.Intn(most+1))
	}
	for range right {
		g.Right = append(g.Right, random.Intn(most+1))
	}
	all := pairs(left, right)
	for _, i := range random.Perm(len(all))[:min(edges, len(all))] {
		g.Edges = append(g.Edges, all[i])
	}
	return g
}

// smallGraphs returns graphs with few edges: all those with two vertices on each side and capacities up to 2, and some with more vertices.
func smallGraphs() []api.Graph {
	list := []api.Graph{{}, {Left: []int{}, Right: []int{}, Edges: [][2]int{}}, {Left: []int{3}}, {Right: []int{0, 2}}}
	for _, edges := range arrangements(pairs(2, 2)) {
		for _, c := range capacities(4, 2) {
			list = append(list, api.Graph{Left: c[:2], Right: c[2:], Edges: edges})
		}
	}
	random := rand.New(rand.NewSource(1))
	for range 400 {
		list = append(list, randomGraph(random, 1+random.Intn(5), 1+random.Intn(5), random.Intn(10), 1+random.Intn(3)))
	}
	return list
}

// path returns a path that begins on the left and goes through so many vertices, all with the capacity 1.
func path(vertices int) api.Graph {
	g := api.Graph{Left: slices.Repeat([]int{1}, (vertices+1)/2), Right: slices.Repeat([]int{1}, vertices/2)}
	for i := range vertices - 1 {
		g.Edges = append(g.Edges, [2]int{(i + 1) / 2, i / 2})
	}
	return g
}

// complete returns a graph with all edges.
func complete(left, right, capacityLeft, capacityRight int) api.Graph {
	return api.Graph{Left: slices.Repeat([]int{capacityLeft}, left), Right: slices.Repeat([]int{capacityRight}, right), Edges: pairs(left, right)}
}

// copied returns a copy of a graph that shares no memory with it.
func copied(g api.Graph) api.Graph {
	return api.Graph{Left: slices.Clone(g.Left), Right: slices.Clone(g.Right), Edges: slices.Clone(g.Edges)}
}

func equal(a, b api.Graph) bool {
	return slices.Equal(a.Left, b.Left) && slices.Equal(a.Right, b.Right) && slices.Equal(a.Edges, b.Edges)
}

// subsets returns all lists of increasing numbers below n.
func subsets(n int) [][]int {
	all := [][]int{nil}
	for i := range n {
		for _, list := range all {
			all = append(all, append(slices.Clone(list), i))
		}
	}
	return all
}

// load returns in how many of the edges a vertex of a side occurs.
func load(g api.Graph, edges []int, side, vertex int) int {
	n := 0
	for _, i := range edges {
		if g.Edges[i][side] == vertex {
			n++
		}
	}
	return n
}

// fits reports whether no vertex occurs more often than its capacity says.
func fits(g api.Graph, edges []int) bool {
	for i, c := range g.Left {
		if load(g, edges, 0, i) > c {
			return false
		}
	}
	for i, c := range g.Right {
		if load(g, edges, 1, i) > c {
			return false
		}
	}
	return true
}

// greatest returns all greatest matchings, by the definition, in lexicographic order.
func greatest(g api.Graph) [][]int {
	var list [][]int
	for _, edges := range subsets(len(g.Edges)) {
		if !fits(g, edges) {
			continue
		}
		if len(list) > 0 && len(edges) > len(list[0]) {
			list = nil
		}
		if len(list) == 0 || len(edges) == len(list[0]) {
			list = append(list, edges)
		}
	}
	slices.SortFunc(list, slices.Compare[[]int])
	return list
}

// definedClasses returns the classes of n edges, given all greatest matchings.
func definedClasses(n int, matchings [][]int) []int {
	classes := make([]int, n)
	for i := range classes {
		found := 0
		for _, edges := range matchings {
			if slices.Contains(edges, i) {
				found++
			}
		}
		switch found {
		case 0:
			classes[i] = Never
		case len(matchings):
			classes[i] = Must
		default:
			classes[i] = May
		}
	}
	return classes
}

func TestConstants(t *testing.T) {
	if MaxVertices != 64 || MaxEdges != 1024 || MaxCapacity != 1000 || Never != 0 || May != 1 || Must != 2 {
		t.Error("a constant is wrong")
	}
}

func TestGreatestAndClassesOfSmallGraphs(t *testing.T) {
	for n, g := range smallGraphs() {
		before := copied(g)
		all := greatest(g)
		if got, e := Greatest(g); e != api.OK || !slices.Equal(got, all[0]) {
			t.Fatalf("graph %d: %v: Greatest: %v, %d; want %v", n, g, got, e, all[0])
		}
		if got, e := Classes(g); e != api.OK || !slices.Equal(got, definedClasses(len(g.Edges), all)) {
			t.Fatalf("graph %d: %v: Classes: %v, %d; the greatest matchings are %v", n, g, got, e, all)
		}
		if e := Check(g); e != api.OK {
			t.Fatalf("graph %d: %v: Check: %d", n, g, e)
		}
		if !equal(g, before) {
			t.Fatalf("graph %d was changed: %v, %v", n, before, g)
		}
	}
}

func TestIs(t *testing.T) {
	for n, g := range smallGraphs() {
		if n%5 != 0 {
			continue
		}
		before := copied(g)
		for _, edges := range subsets(len(g.Edges)) {
			if got := Is(g, edges); got != fits(g, edges) {
				t.Fatalf("graph %d: %v: Is(%v): %v", n, g, edges, got)
			}
		}
		if !equal(g, before) {
			t.Fatalf("graph %d was changed: %v, %v", n, before, g)
		}
	}
}

// noLists are lists of edges or vertices that are not strictly increasing or name one that does not exist, if there are three.
var noLists = [][]int{{-1}, {3}, {math.MinInt}, {math.MaxInt}, {0, 0}, {1, 0}, {0, 2, 1}, {0, 1, 2, 2}, {0, 1, 2, 3}, {-1, 0}, {2, 1, 0}, {0, 1, 0}}

func TestIsNeedsIncreasingEdges(t *testing.T) {
	g := complete(1, 3, 3, 3)
	for _, edges := range noLists {
		if Is(g, edges) || Proves(g, edges, api.Cover{Left: []int{0}}) {
			t.Errorf("%v is no matching", edges)
		}
	}
	for _, edges := range subsets(3) {
		before := slices.Clone(edges)
		if !Is(g, edges) || !slices.Equal(edges, before) {
			t.Errorf("%v is a matching", edges)
		}
	}
}

// sizeWith returns the size of the greatest matchings, found by augmenting paths of vertices, if the edges below settled are in them exactly where used says so; or -1.
func sizeWith(g api.Graph, settled int, used []bool) int {
	left, right := slices.Clone(g.Left), slices.Clone(g.Right)
	size := 0
	for i := range settled {
		if used[i] {
			left[g.Edges[i][0]]--
			right[g.Edges[i][1]]--
			size++
		}
	}
	if slices.ContainsFunc(append(slices.Clone(left), right...), func(c int) bool { return c < 0 }) {
		return -1
	}
	in := make([]bool, len(g.Edges))
	var augment func(u int, seen []bool) bool
	augment = func(u int, seen []bool) bool {
		for i := settled; i < len(g.Edges); i++ {
			v := g.Edges[i][1]
			if g.Edges[i][0] != u || in[i] || seen[v] {
				continue
			}
			seen[v] = true
			if right[v] > 0 {
				right[v]--
				in[i] = true
				return true
			}
			for k := settled; k < len(g.Edges); k++ {
				if in[k] && g.Edges[k][1] == v && augment(g.Edges[k][0], seen) {
					in[k], in[i] = false, true
					return true
				}
			}
		}
		return false
	}
	for u := range left {
		for ; left[u] > 0 && augment(u, make([]bool, len(right))); left[u]-- {
			size++
		}
	}
	return size
}

// leastGreatest returns the lexicographically least greatest matching, by deciding one edge after the other.
func leastGreatest(g api.Graph) []int {
	size := sizeWith(g, 0, nil)
	used := make([]bool, len(g.Edges))
	var edges []int
	for i := range g.Edges {
		used[i] = true
		if used[i] = sizeWith(g, i+1, used) == size; used[i] {
			edges = append(edges, i)
		}
	}
	return edges
}

// middleGraph returns a graph of so few edges that some matchings that cannot be extended are not greatest ones.
func middleGraph(random *rand.Rand) api.Graph {
	most := 1 + random.Intn(3)
	g := randomGraph(random, 8+random.Intn(8), 8+random.Intn(8), 12+random.Intn(20*most), most)
	for i := range g.Left {
		g.Left[i] = max(1, g.Left[i])
	}
	return g
}

// greedy returns the matching that takes every edge that still fits.
func greedy(g api.Graph) []int {
	var edges []int
	for i := range g.Edges {
		if longer := append(slices.Clone(edges), i); fits(g, longer) {
			edges = longer
		}
	}
	return edges
}

func TestGreatestOfGraphsOfMiddleSize(t *testing.T) {
	random := rand.New(rand.NewSource(2))
	hard := 0
	for range 500 {
		g := middleGraph(random)
		want := leastGreatest(g)
		if got, e := Greatest(g); e != api.OK || !slices.Equal(got, want) {
			t.Fatalf("%v: Greatest: %v, %d; want %v", g, got, e, want)
		}
		if !slices.Equal(want, greedy(g)) {
			hard++
		}
	}
	if hard < 200 {
		t.Errorf("the first edges that fit are the least greatest matching of all graphs but %d", hard)
	}
}

func TestClassesOfGraphsOfMiddleSize(t *testing.T) {
	random := rand.New(rand.NewSource(3))
	found := map[int]int{}
	for range 200 {
		g := middleGraph(random)
		classes, e := Classes(g)
		if e != api.OK {
			t.Fatalf("%v: Classes: %d", g, e)
		}
		size := sizeWith(g, 0, nil)
		for i, edge := range g.Edges {
			// The edge moves to the front, where it is settled.
			front := copied(g)
			front.Edges = slices.Insert(slices.Delete(front.Edges, i, i+1), 0, edge)
			with, without := sizeWith(front, 1, []bool{true}) == size, sizeWith(front, 1, []bool{false}) == size
			want := May
			if !with {
				want = Never
			} else if !without {
				want = Must
			}
			if classes[i] != want {
				t.Fatalf("%v: the class of edge %d is %d; want %d", g, i, classes[i], want)
			}
			found[want]++
		}
	}
	if found[Never] < 200 || found[May] < 200 || found[Must] < 200 {
		t.Errorf("too few edges of a class: %v", found)
	}
}

func TestExamples(t *testing.T) {
	g := api.Graph{Left: []int{1, 1}, Right: []int{1}, Edges: [][2]int{{0, 0}, {1, 0}}}
	check := func(name string, got []int, e api.Errno, want ...int) {
		t.Helper()
		if e != api.OK || !slices.Equal(got, want) {
			t.Errorf("%s: %v, %d; want %v", name, got, e, want)
		}
	}
	edges, e := Greatest(g)
	check("Greatest", edges, e, 0)
	c, e := Cover(g)
	check("Cover, left", c.Left, e)
	check("Cover, right", c.Right, e, 0)
	if w, e := Weight(g, c); w != 1 || e != api.OK {
		t.Errorf("Weight: %d, %d", w, e)
	}
	if !Proves(g, []int{0}, c) || !Proves(g, []int{1}, c) {
		t.Error("Proves")
	}
	violator, e := Violator(g)
	check("Violator", violator, e, 0, 1)
	classes, e := Classes(g)
	check("Classes", classes, e, May, May)
	g.Right[0] = 2
	edges, e = Greatest(g)
	check("Greatest", edges, e, 0, 1)
	c, e = Cover(g)
	check("Cover, left", c.Left, e, 0, 1)
	check("Cover, right", c.Right, e)
	for _, c := range []api.Cover{c, {Right: []int{0}}} {
		if w, e := Weight(g, c); w != 2 || e != api.OK {
			t.Errorf("Weight: %d, %d", w, e)
		}
	}
	if violator, e := Violator(g); e != api.ErrNone || len(violator) != 0 {
		t.Errorf("Violator: %v, %d", violator, e)
	}
	classes, e = Classes(g)
	check("Classes", classes, e, Must, Must)
}

// evens returns the even numbers below n.
func evens(n int) []int {
	var list []int
	for i := 0; i < n; i += 2 {
		list = append(list, i)
	}
	return list
}

func TestLongPaths(t *testing.T) {
	// On a path that ends on the right there is only one greatest matching.
	g := path(2 * MaxVertices)
	if edges, e := Greatest(g); e != api.OK || !slices.Equal(edges, evens(len(g.Edges))) {
		t.Errorf("Greatest: %v, %d", edges, e)
	}
	classes, e := Classes(g)
	for i, class := range classes {
		if class != []int{Must, Never}[i%2] {
			t.Errorf("the class of edge %d: %d, %d", i, class, e)
		}
	}
	// In this order the first edges do not belong to it.
	slices.SortStableFunc(g.Edges, func(a, b [2]int) int { return (a[0] - a[1]) - (b[0] - b[1]) })
	slices.Reverse(g.Edges)
	if edges, e := Greatest(g); e != api.OK || len(edges) != MaxVertices || edges[0] != MaxVertices-1 {
		t.Errorf("Greatest: %v, %d", edges, e)
	}
	// One that ends on the left has one for every left vertex.
	g = path(2*MaxVertices - 1)
	if edges, e := Greatest(g); e != api.OK || !slices.Equal(edges, evens(len(g.Edges))) {
		t.Errorf("Greatest: %v, %d", edges, e)
	}
	if classes, e := Classes(g); e != api.OK || !slices.Equal(classes, slices.Repeat([]int{May}, len(g.Edges))) {
		t.Errorf("Classes: %v, %d", classes, e)
	}
}

func TestGreatGraphs(t *testing.T) {
	// Any 32 edges with all vertices are a greatest matching; the least one takes the first free right vertex.
	g := complete(32, 32, 1, 1)
	edges, e := Greatest(g)
	if e != api.OK || len(edges) != 32 {
		t.Fatalf("Greatest: %v, %d", edges, e)
	}
	for i, edge := range edges {
		if edge != 33*i {
			t.Errorf("edge %d: %d", i, edge)
		}
	}
	g = complete(16, 64, MaxCapacity, MaxCapacity)
	if classes, e := Classes(g); e != api.OK || !slices.Equal(classes, slices.Repeat([]int{Must}, MaxEdges)) {
		t.Errorf("Classes: %v, %d", classes, e)
	}
	if edges, e := Greatest(g); e != api.OK || len(edges) != MaxEdges {
		t.Errorf("Greatest: %v, %d", edges, e)
	}
	g = complete(64, 16, 0, MaxCapacity)
	if classes, e := Classes(g); e != api.OK || !slices.Equal(classes, make([]int, MaxEdges)) {
		t.Errorf("Classes: %v, %d", classes, e)
	}
	random := rand.New(rand.NewSource(4))
	for most := 1; most < 40; most += 3 {
		g := randomGraph(random, MaxVertices, MaxVertices, MaxEdges, most)
		edges, e := Greatest(g)
		c, f := Cover(g)
		if e != api.OK || f != api.OK || !Proves(g, edges, c) || len(edges) != sizeWith(g, 0, nil) {
			t.Fatalf("capacities up to %d: Greatest: %v, %d; Cover: %v, %d", most, edges, e, c, f)
		}
		classes, e := Classes(g)
		if e != api.OK {
			t.Fatalf("capacities up to %d: Classes: %d", most, e)
		}
		for i, class := range classes {
			if in := slices.Contains(edges, i); class == Must && !in || class == Never && in {
				t.Errorf("capacities up to %d: the class of edge %d is %d, but Greatest is %v", most, i, class, edges)
			}
		}
	}
}

// size returns the size of the greatest matchings.
func size(t *testing.T, g api.Graph) int {
	t.Helper()
	edges, e := Greatest(g)
	if e != api.OK {
		t.Fatalf("%v: Greatest: %d", g, e)
	}
	return len(edges)
}

// moved returns a graph with the vertices in other places and the edges in another order.
func moved(random *rand.Rand, g api.Graph) api.Graph {
	out := copied(g)
	left, right, order := random.Perm(len(g.Left)), random.Perm(len(g.Right)), random.Perm(len(g.Edges))
	for i, k := range left {
		out.Left[k] = g.Left[i]
	}
	for i, k := range right {
		out.Right[k] = g.Right[i]
	}
	for i, k := range order {
		out.Edges[k] = [2]int{left[g.Edges[i][0]], right[g.Edges[i][1]]}
	}
	return out
}

func TestSizeDependsOnTheGraphAlone(t *testing.T) {
	random := rand.New(rand.NewSource(5))
	for range 300 {
		g := randomGraph(random, 1+random.Intn(20), 1+random.Intn(20), random.Intn(120), 1+random.Intn(6))
		before := size(t, g)
		if after := size(t, moved(random, g)); after != before {
			t.Fatalf("%v: the size is %d in another order, %d before", g, after, before)
		}
		for _, side := range [][]int{g.Left, g.Right} {
			i := random.Intn(len(side))
			side[i]++
			if after := size(t, g); after != before && after != before+1 {
				t.Fatalf("%v: the size is %d with a greater capacity, %d before", g, after, before)
			}
			side[i]--
		}
	}
}

func TestErrorsOfGraphs(t *testing.T) {
	loop := func(n int) [][2]int { return slices.Repeat([][2]int{{0, 0}}, n) }
	one := []int{1}
	for name, c := range map[string]struct {
		g    api.Graph
		want api.Errno
	}{
		"nothing":                       {api.Graph{}, api.OK},
		"64 vertices on both sides":     {complete(64, 64, 1, 1), api.ErrLimit},
		"64 vertices and 1024 edges":    {api.Graph{Left: make([]int, 64), Right: make([]int, 64), Edges: pairs(16, 64)}, api.OK},
		"65 left vertices":              {api.Graph{Left: make([]int, 65)}, api.ErrLimit},
		"65 right vertices":             {api.Graph{Right: make([]int, 65)}, api.ErrLimit},
		"1025 edges":                    {api.Graph{Left: make([]int, 64), Right: make([]int, 64), Edges: pairs(64, 64)[:1025]}, api.ErrLimit},
		"1025 equal edges":              {api.Graph{Left: one, Right: one, Edges: loop(1025)}, api.ErrLimit},
		"1025 edges without vertices":   {api.Graph{Edges: loop(1025)}, api.ErrLimit},
		"65 vertices, all below 0":      {api.Graph{Left: slices.Repeat([]int{-1}, 65)}, api.ErrLimit},
		"the greatest capacities":       {api.Graph{Left: []int{1000, 0}, Right: []int{0, 1000}}, api.OK},
		"a left capacity above 1000":    {api.Graph{Left: []int{0, 1001}}, api.ErrRange},
		"a right capacity above 1000":   {api.Graph{Right: []int{1001, 0}}, api.ErrRange},
		"a left capacity below 0":       {api.Graph{Left: []int{1, -1}}, api.ErrRange},
		"a right capacity below 0":      {api.Graph{Right: []int{-1, 1}}, api.ErrRange},
		"a huge capacity":               {api.Graph{Left: []int{math.MaxInt}}, api.ErrRange},
		"the least capacity":            {api.Graph{Right: []int{math.MinInt}}, api.ErrRange},
		"an edge without vertices":      {api.Graph{Edges: loop(1)}, api.ErrRange},
		"no such left vertex":           {api.Graph{Left: one, Right: []int{1, 1}, Edges: [][2]int{{1, 1}}}, api.ErrRange},
		"no such right vertex":          {api.Graph{Left: []int{1, 1}, Right: one, Edges: [][2]int{{1, 1}}}, api.ErrRange},
		"a left vertex below 0":         {api.Graph{Left: one, Right: one, Edges: [][2]int{{0, 0}, {-1, 0}}}, api.ErrRange},
		"a right vertex below 0":        {api.Graph{Left: one, Right: one, Edges: [][2]int{{0, 0}, {0, math.MinInt}}}, api.ErrRange},
		"an edge twice":                 {api.Graph{Left: one, Right: one, Edges: loop(2)}, api.ErrTwice},
		"an edge twice, far apart":      {api.Graph{Left: []int{1, 1}, Right: []int{1, 1}, Edges: [][2]int{{0, 1}, {1, 0}, {1, 1}, {0, 1}}}, api.ErrTwice},
		"an edge twice, and no vertex":  {api.Graph{Left: one, Right: one, Edges: append(loop(2), [2]int{0, 1})}, api.ErrRange},
		"an edge twice, and below 0":    {api.Graph{Left: []int{1, -1}, Right: one, Edges: loop(2)}, api.ErrRange},
		"the same vertices, turned":     {api.Graph{Left: []int{1, 1}, Right: []int{1, 1}, Edges: [][2]int{{0, 1}, {1, 0}}}, api.OK},
		"no such vertex, and below 0":   {api.Graph{Left: []int{-1}, Edges: loop(1)}, api.ErrRange},
		"1024 equal edges":              {api.Graph{Left: one, Right: one, Edges: loop(1024)}, api.ErrTwice},
		"1024 edges without any vertex": {api.Graph{Edges: loop(1024)}, api.ErrRange},
	} {
		expectErrors(t, name, c.g, c.want)
	}
}

// expectErrors compares the errors of all functions with one; with an error they have to return nothing else.
func expectErrors(t *testing.T, name string, g api.Graph, want api.Errno) {
	t.Helper()
	before := copied(g)
	edges, e1 := Greatest(g)
	weight, e2 := Weight(g, api.Cover{})
	c, e3 := Cover(g)
	violator, e4 := Violator(g)
	classes, e5 := Classes(g)
	if e4 == api.ErrNone {
		e4 = api.OK
	}
	if e := Check(g); e != want || e1 != want || e2 != want || e3 != want || e4 != want || e5 != want {
		t.Errorf("%s: %d, %d, %d, %d, %d, %d; want %d", name, e, e1, e2, e3, e4, e5, want)
	}
	if Is(g, nil) != (want == api.OK) || want != api.OK && Proves(g, nil, api.Cover{}) {
		t.Errorf("%s: Is or Proves", name)
	}
	if want != api.OK && len(edges)+weight+len(c.Left)+len(c.Right)+len(violator)+len(classes) != 0 {
		t.Errorf("%s: results beside errors: %v, %d, %v, %v, %v", name, edges, weight, c, violator, classes)
	}
	if !equal(g, before) {
		t.Errorf("%s: the graph was changed", name)
	}
}
