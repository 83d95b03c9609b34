package dual

import (
	"slices"

	"salchow/api"
)

// market is what prices are asked for: items, in which counting.Check has found no error, and their limits.
type market struct {
	s      api.Segment
	items  []api.Recognized
	sets   [][]string
	groups map[string]api.Group // by name
	codes  map[string]bool      // of candidates
	homes  map[string]bool      // the groups of candidates
}

// newMarket returns the market of items.
func newMarket(c api.Catalog, s api.Segment, items []api.Recognized) market {
	m := market{s, items, Sets(c, items), map[string]api.Group{}, map[string]bool{}, map[string]bool{}}
	for _, x := range c.Groups {
		m.groups[x.Name] = x
	}
	for _, x := range items {
		if x.Credited {
			m.codes[x.Code] = true
			m.homes[x.Group] = true
		}
	}
	return m
}

// proper reports whether prices are proper prices for a set of groups.
func (m market) proper(p api.Prices, set []string) bool {
	if !slices.Equal(p.Set, set) || p.Count < 0 || p.Count > MaxPrice {
		return false
	}
	chosen := map[string]bool{}
	for _, name := range set {
		chosen[name] = true
	}
	return listed(p.Codes, m.codes) && listed(p.Limits, m.homes) && listed(p.Subsidies, chosen)
}

// listed reports whether a list has prices for known names only, strictly increasing by name.
func listed(list []api.Priced, known map[string]bool) bool {
	for i, x := range list {
		if x.Price <= 0 || x.Price > MaxPrice || !known[x.Name] || i > 0 && list[i-1].Name >= x.Name {
			return false
		}
	}
	return true
}

// admits reports whether prices are proper prices for one of the sets.
func (m market) admits(p api.Prices) bool {
	return slices.ContainsFunc(m.sets, func(set []string) bool { return m.proper(p, set) })
}

// full reports whether a certificate has proper prices for each of the sets, in their order.
func (m market) full(cert []api.Prices) bool {
	return slices.EqualFunc(cert, m.sets, m.proper)
}

// bound returns the bound of proper prices.
func (m market) bound(p api.Prices) int64 {
	sum := p.Count * int64(m.s.Count)
	for _, x := range p.Codes {
		sum += x.Price * int64(m.s.Repeat)
	}
	for _, x := range p.Limits {
		sum += x.Price * int64(m.groups[x.Name].Limit)
	}
	for _, x := range p.Subsidies {
		sum -= x.Price
	}
	for _, name := range p.Set {
		sum += m.groups[name].Credit
	}
	for _, profit := range m.profits(p) {
		sum += max(0, profit)
	}
	return sum
}

// greatest returns the greatest bound of a full certificate, which has prices for at least one set.
func (m market) greatest(cert []api.Prices) int64 {
	greatest := m.bound(cert[0])
	for _, p := range cert[1:] {
		greatest = max(greatest, m.bound(p))
	}
	return greatest
}

// profits returns the profits of all items; those that are no candidates have none.
func (m market) profits(p api.Prices) []int64 {
	codes, limits, subsidies := byName(p.Codes), byName(p.Limits), byName(p.Subsidies)
	profits := make([]int64, len(m.items))
	for i, x := range m.items {
		if x.Credited {
			profits[i] = x.Value - p.Count - codes[x.Code] - limits[x.Group] + subsidies[x.Group]
		}
	}
	return profits
}

// byName returns prices by their names.
func byName(list []api.Priced) map[string]int64 {
	prices := map[string]int64{}
	for _, x := range list {
		prices[x.Name] = x.Price
	}
	return prices
}
