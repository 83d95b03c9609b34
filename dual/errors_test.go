package dual

import (
	"math"
	"reflect"
	"slices"
	"strings"
	"testing"

	"salchow/api"
)

// refused checks that prices are not proper for the example, neither alone nor in a certificate.
func refused(t *testing.T, name string, p api.Prices, index int) {
	t.Helper()
	x := example()
	if b, e := Bound(x.c, x.s, x.items, p); b != 0 || e != api.ErrAuth {
		t.Errorf("%s: Bound: %d, %d", name, b, e)
	}
	if l, e := Slack(x.c, x.s, x.items, []int{0, 2}, p); len(l) != 0 || e != api.ErrAuth {
		t.Errorf("%s: Slack: %v, %d", name, l, e)
	}
	cert := exampleCert()
	cert[index] = p
	if gap, e := Gap(x.c, x.s, x.items, []int{0, 2}, cert); gap != 0 || e != api.ErrAuth {
		t.Errorf("%s: Gap: %d, %d", name, gap, e)
	}
	if e := Check(x.c, x.s, x.items, api.Choice{Items: []int{0, 2}, Worth: 4900}, cert); e != api.ErrAuth {
		t.Errorf("%s: Check: %d", name, e)
	}
}

func TestImproperPrices(t *testing.T) {
	for _, count := range []int64{-1, MaxPrice + 1, math.MinInt64, math.MaxInt64} {
		refused(t, "Count", api.Prices{Count: count}, 0)
		refused(t, "Count", api.Prices{Set: []string{"jump"}, Count: count}, 1)
	}
	for _, set := range [][]string{{"spin"}, {"jump", "spin"}, {"jump", "jump"}, {""}, {"Jump"}, {"zoo"}, {"2A"}, slices.Repeat([]string{"jump"}, 100000)} {
		refused(t, "Set", api.Prices{Set: set}, 1)
	}
	// Each list has prices from 1 to MaxPrice of names that are known, in order and only once.
	lists := []struct {
		name  string
		known []string
		put   func(list []api.Priced) api.Prices
	}{
		{"Codes", []string{"1A", "2A", "Sp"}, func(list []api.Priced) api.Prices {
			return api.Prices{Set: []string{"jump"}, Codes: list}
		}},
		{"Limits", []string{"jump", "spin"}, func(list []api.Priced) api.Prices {
			return api.Prices{Set: []string{"jump"}, Limits: list}
		}},
		{"Subsidies", []string{"jump"}, func(list []api.Priced) api.Prices {
			return api.Prices{Set: []string{"jump"}, Subsidies: list}
		}},
	}
	x := example()
	for _, y := range lists {
		for _, price := range []int64{0, -1, MaxPrice + 1, math.MinInt64, math.MaxInt64} {
			refused(t, y.name, y.put([]api.Priced{{Name: "jump", Price: price}}), 1)
			refused(t, y.name, y.put([]api.Priced{{Name: "2A", Price: price}}), 1)
		}
		for _, name := range []string{"jump", "spin", "1A", "2A", "Sp", "", "zoo", "3A", strings.Repeat("2A", 50000)} {
			for _, price := range []int64{1, MaxPrice} {
				p := y.put([]api.Priced{{Name: name, Price: price}})
				if !slices.Contains(y.known, name) {
					refused(t, y.name+" with "+name, p, 1)
				} else if _, e := Bound(x.c, x.s, x.items, p); e != api.OK {
					t.Errorf("%s with %s: %d", y.name, name, e)
				}
			}
		}
		refused(t, y.name, y.put([]api.Priced{{Name: y.known[0], Price: 1}, {Name: y.known[0], Price: 1}}), 1)
		refused(t, y.name, y.put([]api.Priced{{Name: y.known[0], Price: 1}, {Name: "~", Price: 1}}), 1)
		for i := 1; i < len(y.known); i++ {
			refused(t, y.name, y.put([]api.Priced{{Name: y.known[i], Price: 1}, {Name: y.known[i-1], Price: 1}}), 1)
		}
	}
	refused(t, "a subsidy of a group outside the set", api.Prices{Subsidies: []api.Priced{{Name: "jump", Price: 1}}}, 0)
	refused(t, "a subsidy of a group without credit", api.Prices{Set: []string{"jump"}, Subsidies: []api.Priced{{Name: "spin", Price: 1}}}, 1)
}

// TestPricesOfOthers checks that what only items have that are no candidates, or only the catalog, has no price.
func TestPricesOfOthers(t *testing.T) {
	x := example()
	x.c.Groups = append(x.c.Groups, api.Group{Name: "turn", Limit: 1, Credit: 5})
	x.items = append(x.items, api.Recognized{Code: "Tu", Group: "turn", Value: 5})
	for _, p := range []api.Prices{
		{Codes: []api.Priced{{Name: "Tu", Price: 1}}},
		{Limits: []api.Priced{{Name: "turn", Price: 1}}},
		{Set: []string{"turn"}},
		{Set: []string{"jump", "turn"}},
	} {
		if b, e := Bound(x.c, x.s, x.items, p); b != 0 || e != api.ErrAuth {
			t.Errorf("Bound(%v): %d, %d", p, b, e)
		}
	}
	x.items[4].Credited = true
	for _, p := range []api.Prices{
		{Codes: []api.Priced{{Name: "Tu", Price: 1}}},
		{Limits: []api.Priced{{Name: "turn", Price: 1}}},
		{Set: []string{"turn"}},
		{Set: []string{"jump", "turn"}},
	} {
		if _, e := Bound(x.c, x.s, x.items, p); e != api.OK {
			t.Errorf("Bound(%v) with a candidate: %d", p, e)
		}
	}
	if _, e := Bound(x.c, x.s, x.items, api.Prices{Set: []string{"turn", "jump"}}); e != api.ErrAuth {
		t.Errorf("Bound of a set that is not sorted: %d", e)
	}
}

// TestErrorsOfCounting checks that the errors of counting.Check come first, in all functions.
func TestErrorsOfCounting(t *testing.T) {
	for want, spoil := range map[api.Errno]func(x *task){
		api.ErrLimit:    func(x *task) { x.items = make([]api.Recognized, 31); x.s.Count = 0 },
		api.ErrRange:    func(x *task) { x.s.Repeat = 31 },
		api.ErrTwice:    func(x *task) { x.c.Groups[1].Name = "jump" },
		api.ErrName:     func(x *task) { x.items[1].Group = "turn" },
		api.ErrConflict: func(x *task) { x.items[1].Group = "spin" },
	} {
		x := example()
		spoil(&x)
		for _, chosen := range [][]int{{0, 2}, {7}} {
			for _, p := range []api.Prices{{}, {Count: -1}} {
				if b, e := Bound(x.c, x.s, x.items, p); b != 0 || e != want {
					t.Errorf("Bound: %d, %d; want %d", b, e, want)
				}
				if gap, e := Gap(x.c, x.s, x.items, chosen, []api.Prices{p, p}); gap != 0 || e != want {
					t.Errorf("Gap: %d, %d; want %d", gap, e, want)
				}
				if e := Check(x.c, x.s, x.items, api.Choice{Items: chosen, Worth: 4900}, []api.Prices{p, p}); e != want {
					t.Errorf("Check: %d, want %d", e, want)
				}
				if l, e := Slack(x.c, x.s, x.items, chosen, p); l != nil || e != want {
					t.Errorf("Slack: %v, %d; want %d", l, e, want)
				}
			}
		}
	}
}

func TestArgumentsStay(t *testing.T) {
	x, cert := example(), exampleCert()
	cert[1].Limits = []api.Priced{{Name: "jump", Price: 7}, {Name: "spin", Price: 8}}
	cert[1].Subsidies = []api.Priced{{Name: "jump", Price: 9}}
	chosen := []int{0, 2}
	beforeX, beforeCert := x.copied(), exampleCert()
	beforeCert[1].Limits, beforeCert[1].Subsidies = slices.Clone(cert[1].Limits), slices.Clone(cert[1].Subsidies)
	Sets(x.c, x.items)
	for _, p := range cert {
		Bound(x.c, x.s, x.items, p)
		Slack(x.c, x.s, x.items, chosen, p)
	}
	Gap(x.c, x.s, x.items, chosen, cert)
	Check(x.c, x.s, x.items, api.Choice{Items: chosen, Worth: 4900}, cert)
	x.unchanged(t, beforeX)
	if !reflect.DeepEqual(cert, beforeCert) || !slices.Equal(chosen, []int{0, 2}) {
		t.Errorf("the arguments have become %v, %v", cert, chosen)
	}
}
