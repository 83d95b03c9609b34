package dual

import (
	"math/rand"
	"slices"
	"testing"

	"salchow/api"
	"salchow/counting"
)

func TestKinds(t *testing.T) {
	if !slices.Equal([]int{IdleCount, IdleCode, IdleLimit, MoreNeeded, LeftOut, Overcharged}, []int{1, 2, 3, 4, 5, 6}) || MaxPrice != 1000000000 {
		t.Error("the constants")
	}
}

func TestSlack(t *testing.T) {
	x := example()
	jump := []string{"jump"}
	codes := []api.Priced{{Name: "2A", Price: 2200}}
	for i, y := range []struct {
		chosen []int
		p      api.Prices
		want   []Violation
		e      api.Errno
	}{
		{[]int{0}, exampleCert()[1], []Violation{{IdleCount, "", -1, 1100}}, api.OK},
		{[]int{0}, exampleCert()[0], []Violation{{IdleCount, "", -1, 1100}}, api.OK},
		{[]int{0, 2}, exampleCert()[1], nil, api.OK},
		{[]int{2, 3}, exampleCert()[1], []Violation{{IdleCode, "2A", -1, 2200}}, api.OK},
		{nil, exampleCert()[0], []Violation{{IdleCount, "", -1, 2200}, {IdleCode, "2A", -1, 2200}}, api.OK},
		{[]int{0, 2}, api.Prices{}, []Violation{{LeftOut, "", 1, 3300}, {LeftOut, "", 3, 1100}}, api.OK},
		{[]int{0, 2}, api.Prices{Count: 1101}, []Violation{{LeftOut, "", 1, 2199}, {Overcharged, "", 2, 1}}, api.OK},
		{[]int{2, 3}, api.Prices{Count: 3300}, []Violation{{Overcharged, "", 2, 2200}, {Overcharged, "", 3, 2200}}, api.OK},
		{[]int{0, 2}, api.Prices{Set: jump, Subsidies: []api.Priced{{Name: "jump", Price: 7}}}, []Violation{{MoreNeeded, "jump", -1, 7}, {LeftOut, "", 1, 3307}, {LeftOut, "", 3, 1100}}, api.OK},
		{[]int{0, 3}, api.Prices{Set: jump, Limits: []api.Priced{{Name: "jump", Price: 3300}, {Name: "spin", Price: 1100}}, Subsidies: []api.Priced{{Name: "jump", Price: 7}}}, []Violation{{IdleLimit, "jump", -1, 3300}, {LeftOut, "", 1, 7}}, api.OK},
		{nil, api.Prices{Count: MaxPrice, Codes: codes, Limits: []api.Priced{{Name: "jump", Price: 1}, {Name: "spin", Price: MaxPrice}}}, []Violation{{IdleCount, "", -1, 2 * MaxPrice}, {IdleCode, "2A", -1, 2200}, {IdleLimit, "jump", -1, 2}, {IdleLimit, "spin", -1, MaxPrice}}, api.OK},
		{[]int{3}, exampleCert()[1], nil, api.ErrState},
		{nil, exampleCert()[1], nil, api.ErrState},
		{[]int{3}, api.Prices{Set: jump, Count: -1}, nil, api.ErrAuth},
		{[]int{0, 1}, exampleCert()[1], nil, api.ErrArgument},
		{[]int{0, 1}, api.Prices{Count: -1}, nil, api.ErrArgument},
		{[]int{3, 2}, exampleCert()[0], nil, api.ErrArgument},
	} {
		before := x.copied()
		list, e := Slack(x.c, x.s, x.items, y.chosen, y.p)
		if !slices.Equal(list, y.want) || e != y.e {
			t.Errorf("%d: Slack(%v, %v): %v, %d; want %v, %d", i, y.chosen, y.p, list, e, y.want, y.e)
		}
		x.unchanged(t, before)
	}
}

func TestSlackOfSeveralGroups(t *testing.T) {
	x := example()
	x.c.Groups[1].Credit = 5
	x.s.Count = 3
	p := api.Prices{Set: []string{"jump", "spin"}, Subsidies: []api.Priced{{Name: "jump", Price: 4}, {Name: "spin", Price: 3}}}
	list, e := Slack(x.c, x.s, x.items, []int{1, 2, 3}, p)
	if !slices.Equal(list, []Violation{{MoreNeeded, "jump", -1, 4}, {LeftOut, "", 0, 3304}}) || e != api.OK {
		t.Errorf("Slack: %v, %d", list, e)
	}
	for _, chosen := range [][]int{{0}, {3}, nil} {
		if list, e := Slack(x.c, x.s, x.items, chosen, p); list != nil || e != api.ErrState {
			t.Errorf("Slack(%v): %v, %d", chosen, list, e)
		}
	}
}

// losses returns the losses by the definition.
func (x task) losses(chosen []int, p api.Prices) []Violation {
	var list []Violation
	list = append(list, Violation{IdleCount, "", -1, p.Count * int64(x.s.Count-len(chosen))})
	for _, y := range p.Codes {
		list = append(list, Violation{IdleCode, y.Name, -1, y.Price * int64(x.s.Repeat-x.ofCode(chosen, y.Name))})
	}
	for _, y := range p.Limits {
		list = append(list, Violation{IdleLimit, y.Name, -1, y.Price * int64(x.group(y.Name).Limit-x.ofGroup(chosen, y.Name))})
	}
	for _, y := range p.Subsidies {
		list = append(list, Violation{MoreNeeded, y.Name, -1, y.Price * int64(x.ofGroup(chosen, y.Name)-1)})
	}
	for _, i := range x.candidates() {
		if !slices.Contains(chosen, i) {
			list = append(list, Violation{LeftOut, "", i, profit(p, x.items[i])})
		}
	}
	for _, i := range chosen {
		list = append(list, Violation{Overcharged, "", i, -profit(p, x.items[i])})
	}
	return slices.DeleteFunc(list, func(y Violation) bool { return y.Loss <= 0 })
}

// TestSlackOfRandomPrices checks the losses, their sum, and that a choice without losses is the best one with items of all groups of the set.
func TestSlackOfRandomPrices(t *testing.T) {
	random := rand.New(rand.NewSource(235))
	kinds := map[int]int{}
	tight := 0
	for range 500 {
		x := randomTask(random, 7)
		list := x.choices()
		cert, _ := counting.Certify(x.c, x.s, x.items)
		for _, p := range append(cert, x.randomCert(random)...) {
			greatest, least := int64(-1), int64(-1)
			for _, chosen := range list {
				lacks := slices.ContainsFunc(p.Set, func(name string) bool { return x.ofGroup(chosen, name) == 0 })
				got, e := Slack(x.c, x.s, x.items, chosen, p)
				if lacks {
					if got != nil || e != api.ErrState {
						t.Fatalf("Slack(%v, %v, %v): %v, %d", x, chosen, p, got, e)
					}
					continue
				}
				if !slices.Equal(got, x.losses(chosen, p)) || e != api.OK {
					t.Fatalf("Slack(%v, %v, %v): %v, %d; want %v", x, chosen, p, got, e, x.losses(chosen, p))
				}
				var sum int64
				for _, y := range got {
					sum += y.Loss
					kinds[y.Kind]++
				}
				if sum != x.bound(p)-x.credits(p.Set)-x.values(chosen) {
					t.Errorf("Slack(%v, %v, %v): the sum %d of %v", x, chosen, p, sum, got)
				}
				greatest = max(greatest, x.values(chosen))
				if sum == 0 {
					tight++
					least = x.values(chosen)
				}
			}
			if least >= 0 && least != greatest {
				t.Errorf("%v, %v: a choice without losses has %d, another one %d", x, p, least, greatest)
			}
		}
	}
	for kind := IdleCount; kind <= Overcharged; kind++ {
		if kinds[kind] < 100 {
			t.Errorf("only %d losses of the kind %d", kinds[kind], kind)
		}
	}
	if tight < 500 {
		t.Errorf("only %d choices without losses", tight)
	}
}
