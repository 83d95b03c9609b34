package counting

import (
	"cmp"
	"iter"
	"math/bits"
	"slices"

	"salchow/api"
)

// limit is how far the limit of a code, of a group or of the count is used.
type limit struct {
	most, taken int
	best        int64 // the value of the best item that is taken, or 0
	refused     int64 // the value of the best item that is refused, or 0
}

// take reports whether one more item is within the limit. Better items come before worse ones.
func (l *limit) take(value int64) bool {
	if l.taken == l.most {
		l.refused = max(l.refused, value)
		return false
	}
	l.taken++
	l.best = max(l.best, value)
	return true
}

// candidate is an item that can be chosen.
type candidate struct {
	item  int
	group int
	value int64
}

// search is what the choices for all sets of groups have in common. A set of groups is an integer with a bit for each number of a group.
type search struct {
	items  []api.Recognized
	count  int
	groups []api.Group
	number map[string]int    // of each group, by name
	limits []limit           // of the groups
	codes  map[string]*limit // of the codes of candidates
	home   map[string]int    // the number of the group of each code
	ranked []candidate       // those within the limits of codes and groups, the best first
}

// newSearch returns a search among items in which Check has found no error.
func newSearch(c api.Catalog, s api.Segment, items []api.Recognized) *search {
	f := &search{items: items, count: s.Count, groups: c.Groups, number: map[string]int{}, codes: map[string]*limit{}, home: map[string]int{}}
	for i, x := range c.Groups {
		f.number[x.Name] = i
		f.limits = append(f.limits, limit{most: x.Limit})
	}
	for _, i := range f.sorted() {
		x := items[i]
		if f.codes[x.Code] == nil {
			f.codes[x.Code] = &limit{most: s.Repeat}
			f.home[x.Code] = f.number[x.Group]
		}
		// The limits of codes lie within those of groups, and these within the count: candidates can pass one after the other.
		if f.codes[x.Code].take(x.Value) && f.limits[f.home[x.Code]].take(x.Value) {
			f.ranked = append(f.ranked, candidate{item: i, group: f.home[x.Code], value: x.Value})
		}
	}
	return f
}

// sorted returns the candidates: those of the greatest value first, of these the one with the least index first.
func (f *search) sorted() []int {
	var candidates []int
	for i, x := range f.items {
		if x.Credited {
			candidates = append(candidates, i)
		}
	}
	slices.SortFunc(candidates, func(i, j int) int {
		return cmp.Or(cmp.Compare(f.items[j].Value, f.items[i].Value), cmp.Compare(i, j))
	})
	return candidates
}

// sets iterates over the sets of those groups that have a credit and candidates, in their order.
func (f *search) sets() iter.Seq[uint] {
	return func(yield func(uint) bool) {
		all := uint(0)
		for i, x := range f.groups {
			if x.Credit > 0 && f.limits[i].taken > 0 {
				all |= 1 << i
			}
		}
		for set := range all + 1 {
			if set&^all == 0 && !yield(set) {
				return
			}
		}
	}
}

// credits returns the sum of the credits of a set of groups.
func (f *search) credits(set uint) int64 {
	var sum int64
	for i, x := range f.groups {
		if set&(1<<i) != 0 {
			sum += x.Credit
		}
	}
	return sum
}

// pick is the choice for a set of groups.
type pick struct {
	items   []int
	values  int64
	refused int64 // the value of the best item that the count refuses, or 0
}

// pick returns a choice with the greatest sum of values of those with items of all groups of a set; of several ones the first one of those with the most items. It returns false if there is none.
func (f *search) pick(set uint) (pick, bool) {
	free := limit{most: f.count - bits.OnesCount(set)}
	if free.most < 0 {
		return pick{}, false
	}
	p := pick{items: make([]int, 0, min(f.count, len(f.ranked)))}
	for _, x := range f.ranked {
		bit := uint(1) << x.group
		// The best item of a group of the set takes the place that is kept for the group.
		if set&bit == 0 && !free.take(x.value) {
			continue
		}
		set &^= bit
		p.items = append(p.items, x.item)
		p.values += x.value
	}
	if set != 0 {
		return pick{}, false
	}
	slices.Sort(p.items)
	p.refused = free.refused
	return p, true
}
