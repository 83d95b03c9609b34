package compare

import (
	"math"
	"slices"
	"testing"

	"salchow/api"
)

// steps returns all steps with the given items.
func steps(items []api.Item) []Step {
	list := []Step{{Op: Keep}, {Op: Delete}}
	for _, op := range []int{Remark, Replace, Insert} {
		for _, x := range items {
			list = append(list, Step{op, x})
		}
	}
	return list
}

// sequences returns all scripts of at most so many steps.
func sequences(length int, steps []Step) [][]Step {
	all := [][]Step{nil}
	last := all
	for range length {
		var next [][]Step
		for _, s := range last {
			for _, x := range steps {
				next = append(next, append(slices.Clone(s), x))
			}
		}
		all = append(all, next...)
		last = next
	}
	return all
}

// TestAllScripts applies all short scripts to all short lines; most of them do not fit.
func TestAllScripts(t *testing.T) {
	items := []api.Item{item("A"), item("A<"), item("B"), {}}
	fitting := 0
	for _, s := range sequences(3, steps(items)) {
		if n, e := Total(s); n != priced(s) || e != api.OK {
			t.Errorf("Total(%v): %d, %d; want %d", s, n, e, priced(s))
		}
		if list, e := Missing(s); !slices.Equal(list, lost(s)) || e != api.OK {
			t.Errorf("Missing(%v): %v, %d; want %v", s, list, e, lost(s))
		}
		for _, a := range lines(2, items) {
			b, ok := made(a, s)
			if ok {
				fitting++
				checkScript(t, a, b, s)
				continue
			}
			if got, e := Apply(a, s); got != nil || e != api.ErrState {
				t.Errorf("Apply(%v, %v): %v, %d", a, s, got, e)
			}
			if got, e := Invert(a, s); got != nil || e != api.ErrState {
				t.Errorf("Invert(%v, %v): %v, %d", a, s, got, e)
			}
		}
	}
	if fitting < 1000 {
		t.Errorf("only %d scripts fit", fitting)
	}
}

// refused checks the error of Apply and Invert, and that of Total and Missing.
func refused(t *testing.T, name string, a []api.Item, s []Step, want, alone api.Errno) {
	t.Helper()
	if b, e := Apply(a, s); b != nil || e != want {
		t.Errorf("%s: Apply: %v, %d; want %d", name, b, e, want)
	}
	if inverse, e := Invert(a, s); inverse != nil || e != want {
		t.Errorf("%s: Invert: %v, %d; want %d", name, inverse, e, want)
	}
	if alone == api.OK {
		return
	}
	if n, e := Total(s); n != 0 || e != alone {
		t.Errorf("%s: Total: %d, %d; want %d", name, n, e, alone)
	}
	if list, e := Missing(s); list != nil || e != alone {
		t.Errorf("%s: Missing: %v, %d; want %d", name, list, e, alone)
	}
}

func TestScriptsThatAreNone(t *testing.T) {
	a := line("A", "B")
	for _, op := range []int{0, -1, 6, 7, math.MinInt, math.MaxInt, 1<<32 + Keep} {
		refused(t, "an operation", a, []Step{{Op: op}}, api.ErrArgument, api.ErrArgument)
		refused(t, "an operation with an item", a, []Step{{op, item("A")}}, api.ErrArgument, api.ErrArgument)
		refused(t, "an operation at the end", a, []Step{{Op: Keep}, {Op: Keep}, {Op: op}}, api.ErrArgument, api.ErrArgument)
	}
	for _, op := range []int{Keep, Delete} {
		for _, x := range []api.Item{{Code: "A"}, {Down: 1}, {Down: -1}, {Review: true}, {Void: true}, {Joined: true}} {
			refused(t, "an item", a, []Step{{op, x}, {Op: Keep}}, api.ErrArgument, api.ErrArgument)
			refused(t, "an item at the end", a, []Step{{Op: Keep}, {op, x}}, api.ErrArgument, api.ErrArgument)
		}
	}
	// A step that is none comes before one that does not fit, wherever it is.
	refused(t, "a step that does not fit before", a, []Step{{Remark, item("B")}, {Op: 6}}, api.ErrArgument, api.ErrArgument)
	refused(t, "a step that does not fit behind", a, []Step{{Op: 6}, {Remark, item("B")}}, api.ErrArgument, api.ErrArgument)
	refused(t, "too many Keeps", nil, []Step{{Op: Keep}, {Keep, item("A")}}, api.ErrArgument, api.ErrArgument)
}

func TestScriptsThatDoNotFit(t *testing.T) {
	a := line("A", "B<")
	for _, s := range [][]Step{
		nil,
		{{Op: Keep}},
		{{Op: Delete}},
		{{Op: Keep}, {Op: Keep}, {Op: Keep}},
		{{Op: Keep}, {Op: Keep}, {Op: Delete}},
		{{Op: Keep}, {Op: Keep}, {Remark, item("B")}},
		{{Op: Keep}, {Op: Keep}, {Replace, item("C")}},
		{{Op: Keep}, {Insert, item("B<")}},
		{{Remark, item("A")}, {Op: Keep}},
		{{Remark, item("B")}, {Op: Keep}},
		{{Replace, item("A")}, {Op: Keep}},
		{{Replace, item("A<")}, {Op: Keep}},
		{{Insert, item("A")}, {Remark, item("B")}, {Op: Keep}},
	} {
		refused(t, "a script", a, s, api.ErrState, api.OK)
		if n, e := Total(s); n != priced(s) || e != api.OK {
			t.Errorf("Total(%v): %d, %d", s, n, e)
		}
		if list, e := Missing(s); !slices.Equal(list, lost(s)) || e != api.OK {
			t.Errorf("Missing(%v): %v, %d", s, list, e)
		}
	}
}

func TestLimits(t *testing.T) {
	full, long := make([]api.Item, api.MaxItems), make([]api.Item, api.MaxItems+1)
	huge := make([]api.Item, 100000)
	for _, x := range [][2][]api.Item{{long, nil}, {nil, long}, {long, full}, {full, long}, {long, long}, {huge, full}, {full, huge}, {huge, huge}} {
		if n, e := Distance(x[0], x[1]); n != 0 || e != api.ErrLimit {
			t.Errorf("Distance of %d and %d items: %d, %d", len(x[0]), len(x[1]), n, e)
		}
		if s, e := Script(x[0], x[1]); s != nil || e != api.ErrLimit {
			t.Errorf("Script of %d and %d items: %v, %d", len(x[0]), len(x[1]), s, e)
		}
	}
	// A line that is too long, and a script that is too long, come first.
	for _, s := range [][]Step{nil, slices.Repeat([]Step{{Op: Keep}}, api.MaxItems+1), {{Op: 6}}} {
		refused(t, "a long line", long, s, api.ErrLimit, api.OK)
	}
	for _, x := range []Step{{Op: Keep}, {}, {Op: 6}, {Insert, item("A")}, {Delete, item("A")}} {
		for _, n := range []int{61, 62, 100000} {
			refused(t, "a long script", nil, slices.Repeat([]Step{x}, n), api.ErrLimit, api.ErrLimit)
			refused(t, "a long script", full, slices.Repeat([]Step{x}, n), api.ErrLimit, api.ErrLimit)
		}
		refused(t, "a long line and a long script", long, slices.Repeat([]Step{x}, 61), api.ErrLimit, api.ErrLimit)
	}
	// A script of 60 steps is not too long.
	refused(t, "60 steps", nil, slices.Repeat([]Step{{Op: Keep}}, 60), api.ErrState, api.OK)
	refused(t, "60 steps", nil, slices.Repeat([]Step{{Op: 6}}, 60), api.ErrArgument, api.ErrArgument)
	if n, e := Total(slices.Repeat([]Step{{Op: Replace}}, 60)); n != 180 || e != api.OK {
		t.Errorf("Total of 60 steps: %d, %d", n, e)
	}
	if list, e := Missing(slices.Repeat([]Step{{Op: Delete}}, 60)); len(list) != 60 || list[59] != 59 || e != api.OK {
		t.Errorf("Missing of 60 steps: %v, %d", list, e)
	}
}

// TestLongResults checks that a result that is too long is an error of Apply alone, and the last one.
func TestLongResults(t *testing.T) {
	inserts := func(n int) []Step { return slices.Repeat([]Step{{Insert, item("A")}}, n) }
	if b, e := Apply(nil, inserts(30)); len(b) != 30 || e != api.OK {
		t.Errorf("30 items: %v, %d", b, e)
	}
	for _, x := range []struct {
		a []api.Item
		s []Step
	}{
		{nil, inserts(31)},
		{nil, inserts(60)},
		{line("B"), append(inserts(30), Step{Op: Keep})},
		{line("B"), append([]Step{{Remark, item("B<")}}, inserts(30)...)},
		{line("B"), append([]Step{{Replace, item("C")}}, inserts(30)...)},
		{line("B", "B"), append([]Step{{Op: Delete}, {Op: Delete}}, inserts(31)...)},
	} {
		if b, e := Apply(x.a, x.s); b != nil || e != api.ErrLimit {
			t.Errorf("Apply(%v, %v): %v, %d", x.a, x.s, b, e)
		}
		if inverse, e := Invert(x.a, x.s); !slices.Equal(inverse, undone(x.a, x.s)) || e != api.OK {
			t.Errorf("Invert(%v, %v): %v, %d", x.a, x.s, inverse, e)
		}
		refused(t, "a long result that does not fit", line("B", "B", "B"), x.s, api.ErrState, api.OK)
		refused(t, "a long result of a step that is none", x.a, append(slices.Clone(x.s[1:]), Step{Op: -1}), api.ErrArgument, api.ErrArgument)
	}
	if b, e := Apply(line("B"), append([]Step{{Op: Delete}}, inserts(30)...)); len(b) != 30 || e != api.OK {
		t.Errorf("30 items instead of one: %v, %d", b, e)
	}
}

// TestMemory checks that arguments stay as they are, and that results are new memory.
func TestMemory(t *testing.T) {
	a, b := line("A", "B", "C", "D<"), line("A", "C", "D", "E")
	s := []Step{{Op: Keep}, {Op: Delete}, {Op: Keep}, {Remark, item("D")}, {Insert, item("E")}}
	keepA, keepB, keepS := slices.Clone(a), slices.Clone(b), slices.Clone(s)
	for range 2 {
		Distance(a, b)
		script, _ := Script(a, b)
		Total(s)
		line, _ := Apply(a, s)
		inverse, _ := Invert(a, s)
		list, _ := Missing(s)
		if !slices.Equal(script, s) || !slices.Equal(line, b) || !slices.Equal(inverse, undone(keepA, keepS)) || !slices.Equal(list, []int{1}) {
			t.Errorf("%v, %v, %v, %v", script, line, inverse, list)
		}
		if !slices.Equal(a, keepA) || !slices.Equal(b, keepB) || !slices.Equal(s, keepS) {
			t.Errorf("the arguments have become %v, %v, %v", a, b, s)
		}
		clear(script)
		clear(line)
		clear(inverse)
		clear(list)
		kept := []Step{{Op: Keep}, {Op: Keep}, {Op: Keep}, {Op: Keep}}
		same, _ := Apply(a, kept)
		clear(same)
		again, _ := Invert(a, kept)
		clear(again)
		if !slices.Equal(a, keepA) || kept[0].Op != Keep {
			t.Errorf("a result is a part of an argument: %v, %v", a, kept)
		}
	}
}
