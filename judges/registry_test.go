package judges

import (
	"math/rand"
	"reflect"
	"slices"
	"sort"
	"strconv"
	"testing"

	"salchow/api"
)

// example returns the registry of the examples.
func example() []api.Judge {
	return []api.Judge{
		{Name: "ada", Federation: "AUT", Category: 1, Conflicts: []string{"GER"}},
		{Name: "ben", Federation: "GER", Category: 2},
		{Name: "cyd", Federation: "USA", Category: 1, Conflicts: []string{"AUT", "GER"}},
	}
}

// nations are the federations of random registries.
func nations() []string { return []string{"AUT", "GER", "JPN", "SUI", "USA"} }

// randomRegistry returns a registry of at most so many judges, with names of a few.
func randomRegistry(t *testing.T, random *rand.Rand, most int) []api.Judge {
	t.Helper()
	var list []api.Judge
	names := random.Perm(2 * most)[:random.Intn(most+1)]
	sort.Slice(names, func(i, k int) bool { return "j"+strconv.Itoa(names[i]) < "j"+strconv.Itoa(names[k]) })
	for _, n := range names {
		j := api.Judge{Name: "j" + strconv.Itoa(n), Federation: nations()[random.Intn(5)], Category: 1 + random.Intn(MaxCategory)}
		for _, f := range nations() {
			if f != j.Federation && random.Intn(4) == 0 {
				j.Conflicts = append(j.Conflicts, f)
			}
		}
		list = append(list, j)
	}
	if e := Check(list); e != api.OK {
		t.Fatalf("Check(%v): %d", list, e)
	}
	return list
}

// randomFederations returns federations, other strings and repetitions among them, in any order.
func randomFederations(random *rand.Rand) []string {
	var list []string
	for range random.Intn(6) {
		list = append(list, []string{"AUT", "GER", "JPN", "SUI", "USA", "FRA", "", "aut", "no federation"}[random.Intn(9)])
	}
	return list
}

// copies returns a copy of a list that shares no memory with it.
func copies(list []api.Judge) []api.Judge {
	var all []api.Judge
	for _, j := range list {
		j.Conflicts = append([]string(nil), j.Conflicts...)
		all = append(all, j)
	}
	return all
}

// same reports whether two lists have the same judges; nil and empty conflicts are equal.
func same(a, b []api.Judge) bool {
	return slices.EqualFunc(a, b, func(x, y api.Judge) bool {
		return x.Name == y.Name && x.Federation == y.Federation && x.Category == y.Category && slices.Equal(x.Conflicts, y.Conflicts)
	})
}

// against reports whether a judge has a conflict as the definition says.
func against(j api.Judge, federation string) bool {
	if j.Federation == federation {
		return true
	}
	for _, f := range j.Conflicts {
		if f == federation {
			return true
		}
	}
	return false
}

// permitted reports whether a judge is eligible as the definition says.
func permitted(j api.Judge, federations []string, category int) bool {
	for _, f := range federations {
		if against(j, f) {
			return false
		}
	}
	return j.Category <= category
}

// names returns the names of the judges that are selected, sorted.
func names(list []api.Judge, selected func(j api.Judge) bool) []string {
	var all []string
	for _, j := range list {
		if selected(j) {
			all = append(all, j.Name)
		}
	}
	sort.Strings(all)
	return all
}

// TestMemory checks that arguments stay as they are, and that results are new memory.
func TestMemory(t *testing.T) {
	a := example()
	b := []api.Judge{{Name: "abe", Federation: "JPN", Category: 3, Conflicts: []string{"AUT", "USA"}}, {Name: "ben", Federation: "GER", Category: 1, Conflicts: []string{"SUI"}}}
	federations := []string{"USA", "AUT", "GER", "USA"}
	keepA, keepB, keepF := copies(a), copies(b), slices.Clone(federations)
	for range 2 {
		Check(a)
		j, _ := Find(a, "cyd")
		j.Conflicts[0] = "XXX"
		Conflict(a[0], "GER")
		Eligible(a[0], federations, 1)
		clear(Panel(a, federations, 9))
		clear(Panel(a, nil, 9))
		blocked := Blocked(a, []string{"GER", "USA", "GER", "USA"}, 9)
		if len(blocked) != 4 || !slices.Equal(blocked[0], blocked[2]) || len(blocked[0]) != 2 {
			t.Fatalf("Blocked: %v", blocked)
		}
		clear(blocked[0])
		if !slices.Equal(blocked[2], []string{"ada", "ben"}) {
			t.Errorf("the lists of one federation share memory: %v", blocked)
		}
		clear(Federations(a))
		clear(Federations(a[1:2]))
		merged, _ := Merge(a, b)
		for _, j := range merged {
			clear(j.Conflicts)
		}
		clear(merged)
		for _, pair := range [][2][]api.Judge{{a, nil}, {nil, a}, {a, a}} {
			merged, _ := Merge(pair[0], pair[1])
			merged[0].Conflicts[0] = "XXX"
			clear(merged)
		}
		if !reflect.DeepEqual(copies(a), keepA) || !reflect.DeepEqual(copies(b), keepB) || !slices.Equal(federations, keepF) {
			t.Fatalf("the arguments have become %v, %v, %v", a, b, federations)
		}
	}
}
