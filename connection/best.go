package connection

import (
	"slices"

	"salchow/api"
)

const (
	// mostCodes is the greatest number of codes that Best puts in order.
	mostCodes = 8
	// start stands for what is before the first code of an order.
	start = mostCodes
)

// orders has the greatest bonuses of the orders of all sets of codes. A set is an integer with a bit for each index of its codes.
type orders struct {
	codes []string                             // sorted
	bonus [mostCodes + 1][mostCodes]int64      // of a code and the next one
	most  [1 << mostCodes][mostCodes + 1]int64 // what can still be earned from a code on, if a set follows it
}

// Best returns an order of codes for which the sum of the bonuses of all neighbours is greatest.
func Best(c api.Catalog, codes []string) ([]string, int64, api.Errno) {
	if len(codes) > mostCodes {
		return nil, 0, api.ErrLimit
	}
	o := orders{codes: slices.Sorted(slices.Values(codes))}
	if e := o.pay(c); e != api.OK {
		return nil, 0, e
	}
	all := 1<<len(codes) - 1
	for set := range all + 1 {
		for code := range o.bonus {
			_, o.most[set][code] = o.next(code, set)
		}
	}
	return o.follow(start, all), o.most[all][start], api.OK
}

// pay finds the bonuses of all pairs of the codes.
func (o *orders) pay(c api.Catalog) api.Errno {
	var classes []string
	for _, code := range o.codes {
		i := slices.IndexFunc(c.Elements, func(x api.Element) bool { return x.Code == code })
		if i < 0 {
			return api.ErrName
		}
		classes = append(classes, c.Elements[i].Class)
	}
	values := bonuses(c)
	for i, first := range classes {
		for j, second := range classes {
			o.bonus[i][j] = values[[2]string{first, second}]
		}
	}
	return api.OK
}

// next returns which code of a set is best after a code, of several ones the least, and what is earned from there on; -1 if the set is empty.
func (o *orders) next(code, set int) (int, int64) {
	best, most := -1, int64(0)
	for i := range o.codes {
		if set&(1<<i) == 0 {
			continue
		}
		earned := o.bonus[code][i] + o.most[set&^(1<<i)][i]
		if best < 0 || earned > most {
			best, most = i, earned
		}
	}
	return best, most
}

// follow returns the codes of a set in the order that is best after a code, of several orders the least.
func (o *orders) follow(code, set int) []string {
	var order []string
	for set != 0 {
		code, _ = o.next(code, set)
		order = append(order, o.codes[code])
		set &^= 1 << code
	}
	return order
}
