package judges

import (
	"math"
	"math/rand"
	"slices"
	"sort"
	"strconv"
	"strings"
	"testing"

	"salchow/api"
)

func TestCheck(t *testing.T) {
	for _, list := range [][]api.Judge{
		nil,
		{},
		example(),
		example()[1:],
		{{Name: "a", Federation: "AUT", Category: 9}},
		{{Name: "a", Federation: "AUT", Category: 1, Conflicts: []string{}}, {Name: "a_", Federation: "AUT", Category: 1}, {Name: "abcdefghijklmno_", Federation: "AUT", Category: 5, Conflicts: []string{"AAA", "ZZZ"}}},
		// The order of names is that of their bytes.
		{{Name: "j10", Federation: "AUT", Category: 1}, {Name: "j9", Federation: "AUT", Category: 1}},
	} {
		if e := Check(list); e != api.OK {
			t.Errorf("Check(%v): %d", list, e)
		}
	}
}

// faults are the ways to make the example no registry, by the error.
func faults() map[api.Errno][]func(list []api.Judge) []api.Judge {
	at := func(i int, change func(j *api.Judge)) func(list []api.Judge) []api.Judge {
		return func(list []api.Judge) []api.Judge {
			change(&list[i])
			return list
		}
	}
	all := map[api.Errno][]func(list []api.Judge) []api.Judge{}
	add := func(e api.Errno, fault func(list []api.Judge) []api.Judge) { all[e] = append(all[e], fault) }
	for _, n := range []int{65, 66, 10000} {
		add(api.ErrLimit, func(list []api.Judge) []api.Judge {
			for i := 0; len(list) < n; i++ {
				list = append(list, api.Judge{Name: "x" + strconv.Itoa(100000+i), Federation: "USA", Category: 1})
			}
			return list
		})
	}
	for i := range 3 {
		for _, name := range []string{"", "Ada", "2ada", "_ada", "ad a", "abcdefghijklmnopq", strings.Repeat("a", 1<<16), "ad\x00"} {
			add(api.ErrName, at(i, func(j *api.Judge) { j.Name = name }))
		}
		for _, f := range []string{"", "aut", "AU", "AUTX", "AU1", "AU ", strings.Repeat("A", 1<<16)} {
			add(api.ErrName, at(i, func(j *api.Judge) { j.Federation = f }))
			add(api.ErrName, at(i, func(j *api.Judge) { j.Conflicts = []string{f} }))
			add(api.ErrName, at(i, func(j *api.Judge) { j.Conflicts = []string{"FRA", f} }))
			add(api.ErrName, at(i, func(j *api.Judge) { j.Conflicts = []string{f, "FRA"} }))
		}
		for _, n := range []int{0, -1, 10, 11, math.MinInt, math.MaxInt, 1<<32 + 1} {
			add(api.ErrRange, at(i, func(j *api.Judge) { j.Category = n }))
		}
		for _, list := range [][]string{{"FRA", "FRA"}, {"SUI", "FRA"}, {"FRA", "SUI", "SUI"}, {"FRA", "SUI", "JPN"}, {"SUI", "FRA", "JPN"}} {
			add(api.ErrTwice, at(i, func(j *api.Judge) { j.Conflicts = list }))
		}
		add(api.ErrConflict, at(i, func(j *api.Judge) { j.Conflicts = []string{j.Federation} }))
		add(api.ErrConflict, at(i, func(j *api.Judge) { j.Conflicts = []string{"AAA", j.Federation, "ZZZ"} }))
		add(api.ErrConflict, at(i, func(j *api.Judge) { j.Conflicts = []string{"AAA", j.Federation} }))
	}
	add(api.ErrTwice, at(1, func(j *api.Judge) { j.Name = "ada" }))
	add(api.ErrTwice, at(1, func(j *api.Judge) { j.Name = "cyd" }))
	add(api.ErrTwice, at(0, func(j *api.Judge) { j.Name = "bena" }))
	add(api.ErrTwice, at(2, func(j *api.Judge) { j.Name = "aaa" }))
	return all
}

func TestErrorsOfCheck(t *testing.T) {
	all := faults()
	for e, list := range all {
		for i, fault := range list {
			if got := Check(fault(example())); got != e {
				t.Errorf("fault %d of the error %d: %d", i, e, got)
			}
		}
	}
	// Of two faults the one that the chapter names first counts, whichever judges have them.
	order := []api.Errno{api.ErrLimit, api.ErrName, api.ErrTwice, api.ErrRange, api.ErrConflict}
	for k, first := range order {
		for _, second := range order[k+1:] {
			for _, f := range all[first] {
				for _, g := range all[second] {
					// In one list the second fault could undo the first one: so they are faults of different judges.
					list := append(g(example()), renamed(f(example()))...)
					if first == api.ErrLimit {
						list = f(g(example()))
					}
					if got := Check(list); got != first {
						t.Fatalf("faults of the errors %d and %d: %d", first, second, got)
					}
				}
			}
		}
	}
}

// renamed puts judges behind those of the example; what is no name stays none.
func renamed(list []api.Judge) []api.Judge {
	for i := range list {
		if name := list[i].Name; name == "ada" || name == "ben" || name == "cyd" || name == "bena" || name == "aaa" {
			list[i].Name = "z" + name
		}
	}
	return list
}

func TestLimitOfRegistries(t *testing.T) {
	if MaxRegistry != 64 || MaxCategory != 9 {
		t.Error("the limits")
	}
	var list []api.Judge
	for i := range 65 {
		list = append(list, api.Judge{Name: "j" + strconv.Itoa(100+i), Federation: "AUT", Category: 1})
	}
	if e := Check(list[:64]); e != api.OK {
		t.Errorf("64 judges: %d", e)
	}
	if e := Check(list); e != api.ErrLimit {
		t.Errorf("65 judges: %d", e)
	}
	if m, e := Merge(list[:64], list[:64]); len(m) != 64 || e != api.OK {
		t.Errorf("Merge of 64 judges: %d, %d", len(m), e)
	}
	if m, e := Merge(list[:32], list[32:64]); !same(m, list[:64]) || e != api.OK {
		t.Errorf("Merge of 32 and 32 judges: %d, %d", len(m), e)
	}
	for _, pair := range [][2][]api.Judge{{list[:64], list[64:]}, {list[64:], list[:64]}, {list[:33], list[33:]}, {list[1:], list[:1]}, {list[:64], list[1:]}} {
		if m, e := Merge(pair[0], pair[1]); m != nil || e != api.ErrLimit {
			t.Errorf("Merge of 65 judges: %d, %d", len(m), e)
		}
	}
}

func TestFind(t *testing.T) {
	for i, want := range example() {
		if j, e := Find(example(), want.Name); !same([]api.Judge{j}, example()[i:i+1]) || e != api.OK {
			t.Errorf("Find(%s): %v, %d", want.Name, j, e)
		}
	}
	for _, name := range []string{"", "Ada", "adam", "ad", "dan", "AUT", strings.Repeat("a", 1<<16)} {
		for _, list := range [][]api.Judge{nil, example()} {
			if j, e := Find(list, name); !same([]api.Judge{j}, make([]api.Judge, 1)) || e != api.ErrName {
				t.Errorf("Find(%.9s): %v, %d", name, j, e)
			}
		}
	}
	random := rand.New(rand.NewSource(1))
	for range 300 {
		list := randomRegistry(t, random, 30)
		for i, j := range list {
			if got, e := Find(list, j.Name); !same([]api.Judge{got}, list[i:i+1]) || e != api.OK {
				t.Errorf("Find(%v, %s): %v, %d", list, j.Name, got, e)
			}
		}
	}
}

func TestFederations(t *testing.T) {
	for _, x := range []struct {
		list []api.Judge
		want []string
	}{
		{nil, nil},
		{example(), []string{"AUT", "GER", "USA"}},
		{example()[1:2], []string{"GER"}},
		{example()[:1], []string{"AUT", "GER"}},
		{[]api.Judge{{Name: "a", Federation: "USA", Category: 1, Conflicts: []string{"AUT", "ZZZ"}}, {Name: "b", Federation: "AAA", Category: 1}}, []string{"AAA", "AUT", "USA", "ZZZ"}},
	} {
		if got := Federations(x.list); !slices.Equal(got, x.want) {
			t.Errorf("Federations(%v): %v, want %v", x.list, got, x.want)
		}
	}
	random := rand.New(rand.NewSource(2))
	for range 500 {
		list := randomRegistry(t, random, 4)
		var want []string
		for _, f := range nations() {
			if len(names(list, func(j api.Judge) bool { return against(j, f) })) > 0 {
				want = append(want, f)
			}
		}
		if got := Federations(list); !slices.Equal(got, want) {
			t.Errorf("Federations(%v): %v, want %v", list, got, want)
		}
	}
}

// united returns the judges of both lists, of one name that of the second list, as the definition says.
func united(a, b []api.Judge) []api.Judge {
	byName := map[string]api.Judge{}
	for _, j := range slices.Concat(a, b) {
		byName[j.Name] = j
	}
	var list []api.Judge
	for _, j := range byName {
		list = append(list, j)
	}
	sort.Slice(list, func(i, k int) bool { return list[i].Name < list[k].Name })
	return list
}

func TestMerge(t *testing.T) {
	ben := []api.Judge{{Name: "ben", Federation: "GER", Category: 1}}
	want := example()
	want[1] = ben[0]
	if m, e := Merge(example(), ben); !same(m, want) || e != api.OK {
		t.Errorf("Merge with ben: %v, %d", m, e)
	}
	if m, e := Merge(ben, example()); !same(m, example()) || e != api.OK {
		t.Errorf("Merge of ben: %v, %d", m, e)
	}
	if m, e := Merge(nil, nil); len(m) != 0 || e != api.OK {
		t.Errorf("Merge of nobody: %v, %d", m, e)
	}
	random := rand.New(rand.NewSource(3))
	for range 2000 {
		a, b := randomRegistry(t, random, 6), randomRegistry(t, random, 6)
		m, e := Merge(a, b)
		if !same(m, united(a, b)) || e != api.OK || Check(m) != api.OK {
			t.Errorf("Merge(%v, %v): %v, %d", a, b, m, e)
		}
	}
}

func TestMergeIsAssociative(t *testing.T) {
	random := rand.New(rand.NewSource(4))
	for range 2000 {
		a, b, c := randomRegistry(t, random, 5), randomRegistry(t, random, 5), randomRegistry(t, random, 5)
		left, _ := Merge(a, b)
		right, _ := Merge(b, c)
		one, e := Merge(left, c)
		other, f := Merge(a, right)
		if !same(one, other) || e != api.OK || f != api.OK {
			t.Errorf("Merge of %v, %v, %v: %v, %d and %v, %d", a, b, c, one, e, other, f)
		}
		if m, e := Merge(a, a); !same(m, a) || e != api.OK {
			t.Errorf("Merge of %v and itself: %v, %d", a, m, e)
		}
	}
}

func TestErrorsOfMerge(t *testing.T) {
	for e, list := range faults() {
		for other, others := range faults() {
			for _, valid := range [][]api.Judge{nil, example()} {
				if m, got := Merge(list[0](example()), valid); m != nil || got != e {
					t.Errorf("Merge with the error %d of the first list: %v, %d", e, m, got)
				}
				if m, got := Merge(valid, list[0](example())); m != nil || got != e {
					t.Errorf("Merge with the error %d of the second list: %v, %d", e, m, got)
				}
			}
			if m, got := Merge(list[0](example()), others[0](example())); m != nil || got != e {
				t.Errorf("Merge with the errors %d and %d: %v, %d", e, other, m, got)
			}
		}
	}
}
