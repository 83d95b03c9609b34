package judges

import (
	"math"
	"math/rand"
	"slices"
	"strings"
	"testing"

	"salchow/api"
)

func TestExamples(t *testing.T) {
	for _, x := range []struct {
		federations []string
		category    int
		panel       []string
		blocked     [][]string
	}{
		{[]string{"GER"}, 2, nil, [][]string{{"ada", "ben", "cyd"}}},
		{[]string{"USA"}, 2, []string{"ada", "ben"}, [][]string{{"cyd"}}},
		{[]string{"USA"}, 1, []string{"ada"}, [][]string{{"cyd"}}},
		{[]string{"AUT", "GER"}, 2, nil, [][]string{nil, {"ben"}}},
		{[]string{"GER", "AUT"}, 2, nil, [][]string{{"ben"}, nil}},
		{[]string{"GER", "USA", "GER"}, 9, nil, [][]string{{"ada", "ben"}, nil, {"ada", "ben"}}},
		{[]string{"GER", "USA", "GER"}, 1, nil, [][]string{{"ada"}, nil, {"ada"}}},
		{[]string{"AUT", "JPN", "AUT"}, 2, []string{"ben"}, [][]string{{"ada", "cyd"}, nil, {"ada", "cyd"}}},
		{nil, 2, []string{"ada", "ben", "cyd"}, nil},
		{nil, 1, []string{"ada", "cyd"}, nil},
		{nil, 0, nil, nil},
		{[]string{"USA"}, 0, nil, [][]string{nil}},
		{[]string{"", "ger", "no federation"}, 2, []string{"ada", "ben", "cyd"}, [][]string{nil, nil, nil}},
		{[]string{"USA"}, math.MaxInt, []string{"ada", "ben"}, [][]string{{"cyd"}}},
		{[]string{"USA"}, math.MinInt, nil, [][]string{nil}},
	} {
		if got := Panel(example(), x.federations, x.category); !slices.Equal(got, x.panel) {
			t.Errorf("Panel(%v, %d): %v, want %v", x.federations, x.category, got, x.panel)
		}
		if got := Blocked(example(), x.federations, x.category); !slices.EqualFunc(got, x.blocked, slices.Equal) {
			t.Errorf("Blocked(%v, %d): %v, want %v", x.federations, x.category, got, x.blocked)
		}
		for _, j := range example() {
			if got := Eligible(j, x.federations, x.category); got != slices.Contains(x.panel, j.Name) {
				t.Errorf("Eligible(%v, %v, %d): %v", j, x.federations, x.category, got)
			}
		}
		if got := Panel(nil, x.federations, x.category); len(got) != 0 {
			t.Errorf("Panel of nobody: %v", got)
		}
		if got := Blocked(nil, x.federations, x.category); len(got) != len(x.federations) {
			t.Errorf("Blocked of nobody: %v", got)
		}
	}
}

func TestConflict(t *testing.T) {
	for i, with := range [][]string{{"AUT", "GER"}, {"GER"}, {"AUT", "GER", "USA"}} {
		for _, f := range []string{"AUT", "GER", "USA", "JPN", "", "ger", "GE", "GERM", "ada", "AUTGER", strings.Repeat("GER", 1<<16)} {
			if got := Conflict(example()[i], f); got != slices.Contains(with, f) {
				t.Errorf("Conflict(%v, %.9q): %v", example()[i], f, got)
			}
		}
	}
}

func TestCategories(t *testing.T) {
	for own := 1; own <= MaxCategory; own++ {
		j := api.Judge{Name: "ada", Federation: "AUT", Category: own}
		for _, required := range []int{math.MinInt, -1, 0, 1, 2, 3, 4, 5, 6, 7, 8, 9, 10, 1 << 32, math.MaxInt} {
			if got := Eligible(j, []string{"GER"}, required); got != (own <= required) {
				t.Errorf("Eligible of the category %d for %d: %v", own, required, got)
			}
			if got := Eligible(j, []string{"AUT"}, required); got {
				t.Errorf("Eligible of the category %d for %d in spite of a conflict", own, required)
			}
		}
	}
}

func TestRandomRegistries(t *testing.T) {
	random := rand.New(rand.NewSource(26))
	for range 3000 {
		list, federations, category := randomRegistry(t, random, 12), randomFederations(random), random.Intn(12)-1
		for _, j := range list {
			for _, f := range append([]string{"XXX", ""}, nations()...) {
				if got := Conflict(j, f); got != against(j, f) {
					t.Errorf("Conflict(%v, %s): %v", j, f, got)
				}
			}
			if got := Eligible(j, federations, category); got != permitted(j, federations, category) {
				t.Errorf("Eligible(%v, %v, %d): %v", j, federations, category, got)
			}
		}
		panel := names(list, func(j api.Judge) bool { return permitted(j, federations, category) })
		if got := Panel(list, federations, category); !slices.Equal(got, panel) {
			t.Errorf("Panel(%v, %v, %d): %v, want %v", list, federations, category, got, panel)
		}
		blocked := Blocked(list, federations, category)
		if len(blocked) != len(federations) {
			t.Fatalf("Blocked(%v, %v, %d): %v", list, federations, category, blocked)
		}
		for i, f := range federations {
			left := slices.DeleteFunc(slices.Clone(federations), func(s string) bool { return s == f })
			want := names(list, func(j api.Judge) bool {
				return !permitted(j, federations, category) && permitted(j, left, category)
			})
			if !slices.Equal(blocked[i], want) {
				t.Errorf("Blocked(%v, %v, %d): %v at %d, want %v", list, federations, category, blocked[i], i, want)
			}
		}
	}
}

// TestConsequences checks that more federations and smaller categories make nobody eligible, and that two lists together ask for as much as both of them.
func TestConsequences(t *testing.T) {
	random := rand.New(rand.NewSource(261))
	for range 3000 {
		list, a, b, category := randomRegistry(t, random, 8), randomFederations(random), randomFederations(random), random.Intn(12)-1
		both := slices.Concat(a, b)
		for _, j := range list {
			first, second, together := Eligible(j, a, category), Eligible(j, b, category), Eligible(j, both, category)
			if together != (first && second) {
				t.Errorf("Eligible(%v) for %v, %v and both: %v, %v and %v", j, a, b, first, second, together)
			}
			if Eligible(j, both, category-1) && !together {
				t.Errorf("Eligible(%v, %v): for %d, but not for %d", j, both, category-1, category)
			}
		}
		more := Panel(list, a, category)
		for _, name := range append(Panel(list, both, category), Panel(list, a, category-1)...) {
			if !slices.Contains(more, name) {
				t.Errorf("Panel of %v: %s is not there for %v, %d", list, name, a, category)
			}
		}
	}
}

// TestManyFederations checks that long lists of federations are looked through quickly.
func TestManyFederations(t *testing.T) {
	list := randomRegistry(t, rand.New(rand.NewSource(5)), 60)
	federations := slices.Repeat([]string{"FRA", "ITA", "ESP"}, 100000)
	want := names(list, func(j api.Judge) bool { return true })
	if got := Panel(list, federations, 9); !slices.Equal(got, want) {
		t.Errorf("Panel: %v", got)
	}
	federations[299999] = list[0].Federation
	blocked := Blocked(list, federations, 9)
	want = names(list, func(j api.Judge) bool { return against(j, list[0].Federation) })
	if len(blocked) != 300000 || len(blocked[0]) != 0 || !slices.Equal(blocked[299999], want) || len(want) == 0 {
		t.Errorf("Blocked: %d lists", len(blocked))
	}
}
