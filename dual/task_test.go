package dual

import (
	"math/rand"
	"reflect"
	"slices"
	"strconv"
	"testing"

	"salchow/api"
)

// task is what a choice is made from.
type task struct {
	c     api.Catalog
	s     api.Segment
	items []api.Recognized
}

// item returns a credited item.
func item(code, group string, value int64) api.Recognized {
	return api.Recognized{Credited: true, Code: code, Group: group, Value: value}
}

// example returns the task of the examples.
func example() task {
	return task{
		api.Catalog{Groups: []api.Group{{Name: "jump", Limit: 2, Credit: 500}, {Name: "spin", Limit: 1}}},
		api.Segment{Count: 2, Repeat: 1},
		[]api.Recognized{item("2A", "jump", 3300), item("2A", "jump", 3300), item("1A", "jump", 1100), item("Sp", "spin", 1100)},
	}
}

// exampleCert returns the certificate of the examples.
func exampleCert() []api.Prices {
	return []api.Prices{
		{Count: 1100, Codes: []api.Priced{{Name: "2A", Price: 2200}}},
		{Set: []string{"jump"}, Count: 1100, Codes: []api.Priced{{Name: "2A", Price: 2200}}},
	}
}

// randomTask returns a small task.
func randomTask(random *rand.Rand, most int) task {
	var x task
	for i := range 1 + random.Intn(4) {
		x.c.Groups = append(x.c.Groups, api.Group{Name: "g" + strconv.Itoa(i), Limit: 1 + random.Intn(4), Credit: int64(random.Intn(2) * random.Intn(8))})
	}
	x.s = api.Segment{Count: 1 + random.Intn(6), Repeat: 1 + random.Intn(3)}
	codes := 1 + random.Intn(8)
	for range random.Intn(most + 1) {
		k := random.Intn(codes)
		y := item("c"+strconv.Itoa(k), "g"+strconv.Itoa(k%len(x.c.Groups)), int64(random.Intn(9)))
		y.Credited = random.Intn(6) > 0
		x.items = append(x.items, y)
	}
	return x
}

// copied returns a copy of a task that shares no memory with it.
func (x task) copied() task {
	return task{api.Catalog{Groups: slices.Clone(x.c.Groups)}, x.s, slices.Clone(x.items)}
}

// unchanged checks that a task is still as it was.
func (x task) unchanged(t *testing.T, before task) {
	t.Helper()
	if !reflect.DeepEqual(x, before) {
		t.Errorf("the task %v has become %v", before, x)
	}
}

// has returns the number of items of a choice that a condition selects.
func (x task) has(chosen []int, selected func(y api.Recognized) bool) int {
	n := 0
	for _, i := range chosen {
		if selected(x.items[i]) {
			n++
		}
	}
	return n
}

// ofGroup returns the number of items of a group in a choice.
func (x task) ofGroup(chosen []int, name string) int {
	return x.has(chosen, func(y api.Recognized) bool { return y.Group == name })
}

// ofCode returns the number of items with a code in a choice.
func (x task) ofCode(chosen []int, name string) int {
	return x.has(chosen, func(y api.Recognized) bool { return y.Code == name })
}

// choices returns all choices that the limits allow.
func (x task) choices() [][]int {
	list := [][]int{nil}
	for i, y := range x.items {
		for _, before := range slices.Clone(list) {
			chosen := append(slices.Clone(before), i)
			if y.Credited && len(chosen) <= x.s.Count && x.ofCode(chosen, y.Code) <= x.s.Repeat && x.ofGroup(chosen, y.Group) <= x.group(y.Group).Limit {
				list = append(list, chosen)
			}
		}
	}
	return list
}

// group returns the group with a name.
func (x task) group(name string) api.Group {
	for _, g := range x.c.Groups {
		if g.Name == name {
			return g
		}
	}
	return api.Group{}
}

// values returns the sum of the values of a choice.
func (x task) values(chosen []int) int64 {
	var sum int64
	for _, i := range chosen {
		sum += x.items[i].Value
	}
	return sum
}

// credits returns the sum of the credits of a set of groups.
func (x task) credits(set []string) int64 {
	var sum int64
	for _, name := range set {
		sum += x.group(name).Credit
	}
	return sum
}

// worth returns the worth of a choice.
func (x task) worth(chosen []int) int64 {
	sum := x.values(chosen)
	for _, g := range x.c.Groups {
		if x.ofGroup(chosen, g.Name) > 0 {
			sum += g.Credit
		}
	}
	return sum
}

// candidates returns the items that are candidates.
func (x task) candidates() []int {
	var list []int
	for i, y := range x.items {
		if y.Credited {
			list = append(list, i)
		}
	}
	return list
}

// sets returns the sets of groups: those of the numbers 0, 1, 2 and so on.
func (x task) sets() [][]string {
	var names []string
	for _, g := range x.c.Groups {
		if g.Credit > 0 && x.ofGroup(x.candidates(), g.Name) > 0 {
			names = append(names, g.Name)
		}
	}
	var sets [][]string
	for number := range 1 << len(names) {
		var set []string
		for i, name := range names {
			if number/(1<<i)%2 == 1 {
				set = append(set, name)
			}
		}
		sets = append(sets, set)
	}
	return sets
}

// priceOf returns the price of a name, or 0.
func priceOf(list []api.Priced, name string) int64 {
	for _, x := range list {
		if x.Name == name {
			return x.Price
		}
	}
	return 0
}

// profit returns the profit of an item.
func profit(p api.Prices, y api.Recognized) int64 {
	return y.Value - p.Count - priceOf(p.Codes, y.Code) - priceOf(p.Limits, y.Group) + priceOf(p.Subsidies, y.Group)
}

// bound returns the bound of prices.
func (x task) bound(p api.Prices) int64 {
	sum := p.Count*int64(x.s.Count) + x.credits(p.Set)
	for _, y := range p.Codes {
		sum += y.Price * int64(x.s.Repeat)
	}
	for _, y := range p.Limits {
		sum += y.Price * int64(x.group(y.Name).Limit)
	}
	for _, y := range p.Subsidies {
		sum -= y.Price
	}
	for _, i := range x.candidates() {
		if n := profit(p, x.items[i]); n > 0 {
			sum += n
		}
	}
	return sum
}

// randomPrices returns proper prices for a set of groups.
func (x task) randomPrices(random *rand.Rand, set []string) api.Prices {
	var codes, groups []string
	for _, i := range x.candidates() {
		codes, groups = append(codes, x.items[i].Code), append(groups, x.items[i].Group)
	}
	most := 1 + random.Intn(10)
	some := func(names []string) []api.Priced {
		var list []api.Priced
		slices.Sort(names)
		for _, name := range slices.Compact(names) {
			if random.Intn(2) == 0 {
				list = append(list, api.Priced{Name: name, Price: int64(1 + random.Intn(most))})
			}
		}
		return list
	}
	return api.Prices{Set: set, Count: int64(random.Intn(most)), Codes: some(codes), Limits: some(groups), Subsidies: some(slices.Clone(set))}
}

// randomCert returns a full certificate.
func (x task) randomCert(random *rand.Rand) []api.Prices {
	var cert []api.Prices
	for _, set := range x.sets() {
		cert = append(cert, x.randomPrices(random, set))
	}
	return cert
}
