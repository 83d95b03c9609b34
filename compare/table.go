package compare

import "salchow/api"

// table has the least costs of the ends of two lines: that of making b[j:] of a[i:] is least[i][j].
type table struct {
	a, b  []api.Item
	least [][]int
}

// newTable returns the table of two lines.
func newTable(a, b []api.Item) table {
	t := table{a, b, rows(len(a)+1, len(b)+1)}
	for i := len(a); i >= 0; i-- {
		for j := len(b); j >= 0; j-- {
			t.fill(i, j)
		}
	}
	return t
}

// rows returns rows of zeros that share one slice.
func rows(height, width int) [][]int {
	cells := make([]int, height*width)
	list := make([][]int, height)
	for i := range list {
		begin, end := i*width, (i+1)*width
		list[i] = cells[begin:end:end]
	}
	return list
}

// fill finds the least cost of the ends from i and j on; those of all shorter ends are known. It stays 0 where nothing is left.
func (t table) fill(i, j int) {
	found := false
	for op := Keep; op <= Delete; op++ {
		if cost, ok := t.with(op, i, j); ok && (!found || cost < t.least[i][j]) {
			t.least[i][j], found = cost, true
		}
	}
}

// with returns the least cost of a script for the ends from i and j on that begins with an operation, and whether there is one.
func (t table) with(op, i, j int) (int, bool) {
	taken, given := moves(op)
	if i+taken > len(t.a) || j+given > len(t.b) {
		return 0, false
	}
	if taken == given && turn(t.a[i], t.b[j]) != op {
		return 0, false
	}
	return Cost(op) + t.least[i+taken][j+given], true
}

// first returns the first script of least cost.
func (t table) first() []Step {
	var steps []Step
	i, j := 0, 0
next:
	// The operation leaves no choice of the item, so that the least possible one gives the first script.
	for op := Keep; op <= Delete; op++ {
		if cost, ok := t.with(op, i, j); ok && cost == t.least[i][j] {
			step := Step{Op: op}
			if brings(op) {
				step.Item = t.b[j]
			}
			steps = append(steps, step)
			taken, given := moves(op)
			i, j = i+taken, j+given
			goto next
		}
	}
	return steps
}
