package dual

import (
	"slices"

	"salchow/api"
	"salchow/counting"
)

// The kinds of violated conditions.
const (
	IdleCount   = 1 // the count has a price, but is not used up
	IdleCode    = 2 // a code has a price, but is not used up
	IdleLimit   = 3 // a limit of a group has a price, but is not used up
	MoreNeeded  = 4 // a group has a subsidy, but more than one item
	LeftOut     = 5 // an item is worth more than its price, but is not chosen
	Overcharged = 6 // an item is worth less than its price, but is chosen
)

// Violation is a violated condition and by how much it widens the gap. Name is the code or the group, Item the index of the item; otherwise they are empty and -1.
type Violation struct {
	Kind int
	Name string
	Item int
	Loss int64
}

// Slack returns the conditions of complementary slackness that a choice and prices violate.
func Slack(c api.Catalog, s api.Segment, items []api.Recognized, chosen []int, p api.Prices) ([]Violation, api.Errno) {
	if _, e := counting.Worth(c, s, items, chosen); e != api.OK {
		return nil, e
	}
	m := newMarket(c, s, items)
	if !m.admits(p) {
		return nil, api.ErrAuth
	}
	u := m.use(chosen)
	for _, name := range p.Set {
		if u.groups[name] == 0 {
			return nil, api.ErrState
		}
	}
	return m.losses(chosen, u, p), api.OK
}

// usage is how many items a choice has of each code and of each group.
type usage struct {
	codes, groups map[string]int
}

// use returns the usage of a choice.
func (m market) use(chosen []int) usage {
	u := usage{map[string]int{}, map[string]int{}}
	for _, i := range chosen {
		u.codes[m.items[i].Code]++
		u.groups[m.items[i].Group]++
	}
	return u
}

// losses returns the losses that are greater than 0, in their order.
func (m market) losses(chosen []int, u usage, p api.Prices) []Violation {
	var list []Violation
	add := func(kind int, name string, item int, loss int64) {
		if loss > 0 {
			list = append(list, Violation{kind, name, item, loss})
		}
	}
	add(IdleCount, "", -1, p.Count*int64(m.s.Count-len(chosen)))
	for _, x := range p.Codes {
		add(IdleCode, x.Name, -1, x.Price*int64(m.s.Repeat-u.codes[x.Name]))
	}
	for _, x := range p.Limits {
		add(IdleLimit, x.Name, -1, x.Price*int64(m.groups[x.Name].Limit-u.groups[x.Name]))
	}
	for _, x := range p.Subsidies {
		add(MoreNeeded, x.Name, -1, x.Price*int64(u.groups[x.Name]-1))
	}
	profits := m.profits(p)
	for i, profit := range profits {
		if !slices.Contains(chosen, i) {
			add(LeftOut, "", i, profit)
		}
	}
	for _, i := range chosen {
		add(Overcharged, "", i, -profits[i])
	}
	return list
}
