package compare

import (
	"math"
	"math/rand"
	"slices"
	"strings"
	"testing"

	"salchow/api"
)

func TestExamples(t *testing.T) {
	for _, x := range []struct {
		a, b   []api.Item
		cost   int
		script []Step
		lost   []int
	}{
		{line("3A", "2T", "4S"), line("3A", "4S", "CSp"), 4, []Step{{Op: Keep}, {Op: Delete}, {Op: Keep}, {Insert, item("CSp")}}, []int{1}},
		{line("3A"), line("3A<"), 1, []Step{{Remark, item("3A<")}}, nil},
		{line("3A<"), line("3A"), 1, []Step{{Remark, item("3A")}}, nil},
		{line("3A"), line("2T"), 3, []Step{{Replace, item("2T")}}, []int{0}},
		{line("3A", "2T"), line("2T"), 2, []Step{{Op: Delete}, {Op: Keep}}, []int{0}},
		{nil, nil, 0, nil, nil},
		{nil, line("3A", "2T"), 4, []Step{{Insert, item("3A")}, {Insert, item("2T")}}, nil},
		{line("3A", "2T"), nil, 4, []Step{{Op: Delete}, {Op: Delete}}, []int{0, 1}},
		{line("3A", "3A"), line("3A"), 2, []Step{{Op: Keep}, {Op: Delete}}, []int{1}},
		{line("3A"), line("3A", "3A"), 2, []Step{{Op: Keep}, {Insert, item("3A")}}, nil},
		// Insert is before Delete, and Replace before both.
		{line("A", "B"), line("B", "A"), 4, []Step{{Insert, item("B")}, {Op: Keep}, {Op: Delete}}, []int{1}},
		{line("A", "B"), line("C"), 5, []Step{{Replace, item("C")}, {Op: Delete}}, []int{0, 1}},
		// A Remark at the beginning is before the Insert that leads to a Keep of the same cost, but not before a Keep.
		{line("A"), line("A<", "A"), 2, []Step{{Insert, item("A<")}, {Op: Keep}}, nil},
		{line("A", "A"), line("A<", "A<"), 2, []Step{{Remark, item("A<")}, {Remark, item("A<")}}, nil},
	} {
		if n, e := Distance(x.a, x.b); n != x.cost || e != api.OK {
			t.Errorf("Distance(%v, %v): %d, %d; want %d", x.a, x.b, n, e, x.cost)
		}
		if s, e := Script(x.a, x.b); !slices.Equal(s, x.script) || e != api.OK {
			t.Errorf("Script(%v, %v): %v, %d; want %v", x.a, x.b, s, e, x.script)
		}
		if list, e := Missing(x.script); !slices.Equal(list, x.lost) || e != api.OK {
			t.Errorf("Missing(%v): %v, %d; want %v", x.script, list, e, x.lost)
		}
		if n, e := Total(x.script); n != x.cost || e != api.OK {
			t.Errorf("Total(%v): %d, %d; want %d", x.script, n, e, x.cost)
		}
		checkScript(t, x.a, x.b, x.script)
	}
}

func TestCost(t *testing.T) {
	if Keep != 1 || Remark != 2 || Replace != 3 || Insert != 4 || Delete != 5 {
		t.Error("the operations")
	}
	for op := -300; op <= 300; op++ {
		want, ok := prices[op]
		if !ok {
			want = -1
		}
		if n := Cost(op); n != want {
			t.Errorf("Cost(%d): %d, want %d", op, n, want)
		}
	}
	for _, op := range []int{math.MinInt, math.MaxInt, 1<<32 + Insert, 1<<16 + Delete} {
		if n := Cost(op); n != -1 {
			t.Errorf("Cost(%d): %d", op, n)
		}
	}
}

// TestSmallLines compares with all scripts of all pairs of short lines.
func TestSmallLines(t *testing.T) {
	all := lines(3, []api.Item{item("A"), item("A<"), item("B"), {Code: "", Void: true}})
	for _, a := range all {
		for _, b := range all {
			var best []Step
			for i, s := range scripts(a, b) {
				if i == 0 || priced(s) < priced(best) || priced(s) == priced(best) && before(s, best) {
					best = s
				}
			}
			if n, e := Distance(a, b); n != priced(best) || e != api.OK {
				t.Errorf("Distance(%v, %v): %d, %d; want %d", a, b, n, e, priced(best))
			}
			s, e := Script(a, b)
			if !slices.Equal(s, best) || e != api.OK {
				t.Errorf("Script(%v, %v): %v, %d; want %v", a, b, s, e, best)
			}
			checkScript(t, a, b, s)
		}
	}
}

// TestAllFields checks that items that differ in one field alone are different, and that only the code makes them others.
func TestAllFields(t *testing.T) {
	for _, code := range []string{"3A", "", "\x00", "no code", strings.Repeat("Z", 1<<16)} {
		x := api.Item{Code: code, Down: -1}
		for _, y := range []struct {
			item api.Item
			op   int
		}{
			{api.Item{Code: code, Down: -1}, Keep},
			{api.Item{Code: code, Down: 0}, Remark},
			{api.Item{Code: code, Down: math.MaxInt}, Remark},
			{api.Item{Code: code, Down: -1, Review: true}, Remark},
			{api.Item{Code: code, Down: -1, Void: true}, Remark},
			{api.Item{Code: code, Down: -1, Joined: true}, Remark},
			{api.Item{Code: code + "x", Down: -1}, Replace},
			{api.Item{Code: code + "x"}, Replace},
			{api.Item{Code: "z"}, Replace},
		} {
			want := Step{Op: y.op}
			if y.op != Keep {
				want.Item = y.item
			}
			if s, e := Script([]api.Item{x}, []api.Item{y.item}); len(s) != 1 || s[0] != want || e != api.OK {
				t.Errorf("Script(%.9v, %.9v): %.9v, %d", x, y.item, s, e)
			}
			if n, e := Distance([]api.Item{x}, []api.Item{y.item}); n != prices[y.op] || e != api.OK {
				t.Errorf("Distance(%.9v, %.9v): %d, %d", x, y.item, n, e)
			}
			checkScript(t, []api.Item{x}, []api.Item{y.item}, []Step{want})
		}
	}
	// The zero item is an item like any other one.
	zero := []api.Item{{}}
	for _, a := range [][]api.Item{nil, zero, {{Down: 1}}, line("A")} {
		s, e := Script(a, zero)
		if e != api.OK || len(s) != 1 {
			t.Errorf("Script(%v, %v): %v, %d", a, zero, s, e)
		}
		checkScript(t, a, zero, s)
	}
}

// TestMetric checks that Distance is a metric.
func TestMetric(t *testing.T) {
	all := lines(3, []api.Item{item("A"), item("A<"), item("B"), item("B<")})
	far := make([][]int, len(all))
	for i, a := range all {
		for _, b := range all {
			n, e := Distance(a, b)
			if e != api.OK {
				t.Fatalf("Distance(%v, %v): %d", a, b, e)
			}
			far[i] = append(far[i], n)
		}
	}
	for i := range all {
		for j := range all {
			if far[i][j] != far[j][i] || (far[i][j] == 0) != (i == j) {
				t.Fatalf("Distance(%v, %v): %d, and the other way %d", all[i], all[j], far[i][j], far[j][i])
			}
			for k := range all {
				if far[i][k] > far[i][j]+far[j][k] {
					t.Fatalf("from %v by %v to %v", all[i], all[j], all[k])
				}
			}
		}
	}
}

// best is the cost of a script with its operations as a string.
type best struct {
	cost int
	ops  string
}

// firstBest finds the first of the least scripts from the beginnings of the lines on: of two scripts for the same beginnings the first one of the least ones stays the better one whatever follows.
func firstBest(a, b []api.Item) best {
	table := map[[2]int]best{{0, 0}: {}}
	for i := range len(a) + 1 {
		for j := range len(b) + 1 {
			var list []best
			add := func(i, j, op int) {
				if x, ok := table[[2]int{i, j}]; ok {
					list = append(list, best{x.cost + prices[op], x.ops + string(rune('0'+op))})
				}
			}
			add(i, j-1, Insert)
			add(i-1, j, Delete)
			switch {
			case i == 0 || j == 0:
			case a[i-1] == b[j-1]:
				add(i-1, j-1, Keep)
			case a[i-1].Code == b[j-1].Code:
				add(i-1, j-1, Remark)
			default:
				add(i-1, j-1, Replace)
			}
			if len(list) > 0 {
				table[[2]int{i, j}] = slices.MinFunc(list, func(x, y best) int {
					if x.cost != y.cost {
						return x.cost - y.cost
					}
					return strings.Compare(x.ops, y.ops)
				})
			}
		}
	}
	return table[[2]int{len(a), len(b)}]
}

// randomLine returns a line of at most so many items of a few codes.
func randomLine(random *rand.Rand, most, codes int) []api.Item {
	var items []api.Item
	for range random.Intn(most + 1) {
		items = append(items, api.Item{Code: string(rune('A' + random.Intn(codes))), Down: random.Intn(2), Joined: random.Intn(5) == 0})
	}
	return items
}

// randomChange returns a line with some changes.
func randomChange(random *rand.Rand, a []api.Item) []api.Item {
	var b []api.Item
	for _, x := range a {
		switch random.Intn(8) {
		case 0:
			b = append(b, api.Item{Code: "Z"}, x)
		case 1:
			x.Review = true
			b = append(b, x)
		case 2:
			x.Code += "x"
			b = append(b, x)
		case 3:
		default:
			b = append(b, x)
		}
	}
	return b[:min(len(b), api.MaxItems)]
}

func TestRandomLines(t *testing.T) {
	random := rand.New(rand.NewSource(25))
	for i := range 1500 {
		a := randomLine(random, api.MaxItems, 1+random.Intn(6))
		b := randomLine(random, api.MaxItems, 1+random.Intn(6))
		if i%2 == 0 {
			b = randomChange(random, a)
		}
		want := firstBest(a, b)
		if n, e := Distance(a, b); n != want.cost || e != api.OK {
			t.Errorf("Distance(%v, %v): %d, %d; want %d", a, b, n, e, want.cost)
		}
		s, e := Script(a, b)
		var ops strings.Builder
		for _, x := range s {
			ops.WriteByte(byte('0' + x.Op))
		}
		if ops.String() != want.ops || e != api.OK {
			t.Errorf("Script(%v, %v): %v, %d; want %s", a, b, s, e, want.ops)
		}
		checkScript(t, a, b, s)
		back, e := Distance(b, a)
		if back != want.cost || e != api.OK || (want.cost == 0) != slices.Equal(a, b) {
			t.Errorf("Distance(%v, %v): %d, %d; want %d", b, a, back, e, want.cost)
		}
		c := randomChange(random, b)
		direct, _ := Distance(a, c)
		if on, _ := Distance(b, c); direct > want.cost+on {
			t.Errorf("from %v by %v to %v: %d, %d and %d", a, b, c, direct, want.cost, on)
		}
	}
}

func TestGreatestLines(t *testing.T) {
	a, b := slices.Repeat(line("A"), api.MaxItems), slices.Repeat(line("B"), api.MaxItems)
	for _, x := range []struct {
		a, b []api.Item
		cost int
		step Step
	}{
		{a, a, 0, Step{Op: Keep}},
		{a, slices.Repeat(line("A<"), api.MaxItems), 30, Step{Remark, item("A<")}},
		{a, b, 90, Step{Replace, item("B")}},
		{nil, b, 60, Step{Insert, item("B")}},
		{a, nil, 60, Step{Op: Delete}},
	} {
		if n, e := Distance(x.a, x.b); n != x.cost || e != api.OK {
			t.Errorf("Distance(%v, %v): %d, %d; want %d", x.a, x.b, n, e, x.cost)
		}
		want := slices.Repeat([]Step{x.step}, api.MaxItems)
		if s, e := Script(x.a, x.b); !slices.Equal(s, want) || e != api.OK {
			t.Errorf("Script(%v, %v): %v, %d", x.a, x.b, s, e)
		}
		checkScript(t, x.a, x.b, want)
	}
	// The longest script that fits lines of the greatest length.
	deletes, inserts := slices.Repeat([]Step{{Op: Delete}}, api.MaxItems), slices.Repeat([]Step{{Insert, item("B")}}, api.MaxItems)
	checkScript(t, a, b, slices.Concat(deletes, inserts))
	checkScript(t, a, b, slices.Concat(inserts, deletes))
}
