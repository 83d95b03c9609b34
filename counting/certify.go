package counting

import (
	"maps"
	"slices"

	"salchow/api"
)

// mostPrice is the greatest price.
const mostPrice = 1_000_000_000

// Certify returns prices for each set of groups, which together prove that no choice is worth more than the best one.
func Certify(c api.Catalog, s api.Segment, items []api.Recognized) ([]api.Prices, api.Errno) {
	if e := Check(c, s, items); e != api.OK {
		return nil, e
	}
	f := newSearch(c, s, items)
	var certificate []api.Prices
	for set := range f.sets() {
		certificate = append(certificate, f.prices(set))
	}
	return certificate, api.OK
}

// prices returns prices for a set of groups. Each limit costs as much as the best item that it refuses is worth, less what this item pays for the wider limits.
func (f *search) prices(set uint) api.Prices {
	var prices api.Prices
	p, ok := f.pick(set)
	prices.Count = p.refused
	if !ok {
		// More groups are asked for than items may count: their subsidies, all almost as great as the price, make the bound negative.
		prices.Count = mostPrice
	}
	var paid []int64
	for i, x := range f.groups {
		price := max(0, f.limits[i].refused-prices.Count)
		subsidy := int64(0)
		if set&(1<<i) != 0 {
			prices.Set = append(prices.Set, x.Name)
			// The best item of the group is chosen even if the count costs more than it is worth.
			subsidy = max(0, prices.Count-f.limits[i].best)
		}
		prices.Limits = priced(prices.Limits, x.Name, price)
		prices.Subsidies = priced(prices.Subsidies, x.Name, subsidy)
		paid = append(paid, prices.Count+price-subsidy)
	}
	for _, code := range slices.Sorted(maps.Keys(f.codes)) {
		prices.Codes = priced(prices.Codes, code, f.codes[code].refused-paid[f.home[code]])
	}
	return prices
}

// priced adds a price to a list, if it is greater than 0.
func priced(list []api.Priced, name string, price int64) []api.Priced {
	if price <= 0 {
		return list
	}
	return append(list, api.Priced{Name: name, Price: price})
}
