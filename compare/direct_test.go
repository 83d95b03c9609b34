package compare

import (
	"slices"
	"testing"

	"salchow/api"
)

// line returns a line of items: a code with < is an item with a step down.
func line(words ...string) []api.Item {
	var items []api.Item
	for _, w := range words {
		items = append(items, item(w))
	}
	return items
}

// item returns an item.
func item(word string) api.Item {
	if n := len(word); n > 0 && word[n-1] == '<' {
		return api.Item{Code: word[:n-1], Down: 1}
	}
	return api.Item{Code: word}
}

// prices are the costs of the operations as the chapter has them.
var prices = map[int]int{Keep: 0, Remark: 1, Insert: 2, Delete: 2, Replace: 3}

// priced returns the cost of a script by the prices.
func priced(s []Step) int {
	sum := 0
	for _, x := range s {
		sum += prices[x.Op]
	}
	return sum
}

// made applies a script as the definition says, and reports whether it fits. It takes one item after the other from a.
func made(a []api.Item, s []Step) ([]api.Item, bool) {
	var b []api.Item
	for _, x := range s {
		if x.Op == Insert {
			b = append(b, x.Item)
			continue
		}
		if len(a) == 0 {
			return nil, false
		}
		next := a[0]
		a = a[1:]
		switch {
		case x.Op == Keep:
			b = append(b, next)
		case x.Op == Remark && next.Code == x.Item.Code && next != x.Item, x.Op == Replace && next.Code != x.Item.Code:
			b = append(b, x.Item)
		case x.Op != Delete:
			return nil, false
		}
	}
	return b, len(a) == 0
}

// undone inverts a script that fits as the definition says.
func undone(a []api.Item, s []Step) []Step {
	if len(s) == 0 {
		return nil
	}
	x, rest := s[0], a
	if x.Op != Insert {
		rest = a[1:]
	}
	y := map[int]func() Step{
		Keep:    func() Step { return Step{Op: Keep} },
		Remark:  func() Step { return Step{Remark, a[0]} },
		Replace: func() Step { return Step{Replace, a[0]} },
		Insert:  func() Step { return Step{Op: Delete} },
		Delete:  func() Step { return Step{Insert, a[0]} },
	}[x.Op]()
	return append([]Step{y}, undone(rest, s[1:])...)
}

// lost returns the indices of the items that a script deletes or replaces, as it goes through a line.
func lost(s []Step) []int {
	var indices []int
	next := 0
	for _, x := range s {
		switch x.Op {
		case Delete, Replace:
			indices = append(indices, next)
			next++
		case Keep, Remark:
			next++
		}
	}
	return indices
}

// scripts returns all scripts that make b of a.
func scripts(a, b []api.Item) [][]Step {
	if len(a) == 0 && len(b) == 0 {
		return [][]Step{nil}
	}
	var all [][]Step
	add := func(x Step, a, b []api.Item) {
		for _, s := range scripts(a, b) {
			all = append(all, append([]Step{x}, s...))
		}
	}
	if len(b) > 0 {
		add(Step{Insert, b[0]}, a, b[1:])
	}
	if len(a) > 0 {
		add(Step{Op: Delete}, a[1:], b)
	}
	if len(a) > 0 && len(b) > 0 {
		for _, x := range []Step{{Op: Keep}, {Remark, b[0]}, {Replace, b[0]}} {
			if _, ok := made(a[:1], []Step{x}); ok && (x.Op != Keep || a[0] == b[0]) {
				add(x, a[1:], b[1:])
			}
		}
	}
	return all
}

// before reports whether a script is before another one in the order of scripts.
func before(s, other []Step) bool {
	for i := range min(len(s), len(other)) {
		if s[i].Op != other[i].Op {
			return s[i].Op < other[i].Op
		}
	}
	return false
}

// lines returns all lines of at most so many of the items.
func lines(length int, items []api.Item) [][]api.Item {
	all := [][]api.Item{nil}
	last := all
	for range length {
		var next [][]api.Item
		for _, a := range last {
			for _, x := range items {
				next = append(next, append(slices.Clone(a), x))
			}
		}
		all = append(all, next...)
		last = next
	}
	return all
}

// checkScript checks what a script, which makes b of a, is for all functions.
func checkScript(t *testing.T, a, b []api.Item, s []Step) {
	t.Helper()
	if got, e := Apply(a, s); !slices.Equal(got, b) || e != api.OK {
		t.Errorf("Apply(%v, %v): %v, %d; want %v", a, s, got, e, b)
	}
	if n, e := Total(s); n != priced(s) || e != api.OK {
		t.Errorf("Total(%v): %d, %d; want %d", s, n, e, priced(s))
	}
	if list, e := Missing(s); !slices.Equal(list, lost(s)) || e != api.OK {
		t.Errorf("Missing(%v): %v, %d; want %v", s, list, e, lost(s))
	}
	inverse, e := Invert(a, s)
	if !slices.Equal(inverse, undone(a, s)) || e != api.OK {
		t.Errorf("Invert(%v, %v): %v, %d; want %v", a, s, inverse, e, undone(a, s))
	}
	if got, e := Apply(b, inverse); !slices.Equal(got, a) || e != api.OK {
		t.Errorf("Apply(%v, %v): %v, %d; want %v", b, inverse, got, e, a)
	}
	if again, e := Invert(b, inverse); !slices.Equal(again, s) || e != api.OK {
		t.Errorf("Invert(%v, %v): %v, %d; want %v", b, inverse, again, e, s)
	}
	if n, e := Total(inverse); n != priced(s) || e != api.OK {
		t.Errorf("Total(%v): %d, %d; want %d", inverse, n, e, priced(s))
	}
}
