package compare

import "salchow/api"

// Apply returns what a script makes of a.
func Apply(a []api.Item, s []Step) ([]api.Item, api.Errno) {
	if e := fits(a, s); e != api.OK {
		return nil, e
	}
	var b []api.Item
	at := 0
	for _, x := range s {
		taken, given := moves(x.Op)
		switch {
		case x.Op == Keep:
			b = append(b, a[at])
		case given > 0:
			b = append(b, x.Item)
		}
		at += taken
	}
	if len(b) > api.MaxItems {
		return nil, api.ErrLimit
	}
	return b, api.OK
}

// Invert returns a script that makes a of what s makes of a.
func Invert(a []api.Item, s []Step) ([]Step, api.Errno) {
	if e := fits(a, s); e != api.OK {
		return nil, e
	}
	inverse := make([]Step, len(s))
	at := 0
	for i, x := range s {
		taken, _ := moves(x.Op)
		switch x.Op {
		case Keep:
			inverse[i] = x
		case Insert:
			inverse[i] = Step{Op: Delete}
		case Delete:
			inverse[i] = Step{Op: Insert, Item: a[at]}
		default:
			inverse[i] = Step{Op: x.Op, Item: a[at]}
		}
		at += taken
	}
	return inverse, api.OK
}

// fits returns OK if a script can be applied to a, or the first error.
func fits(a []api.Item, s []Step) api.Errno {
	if len(a) > api.MaxItems {
		return api.ErrLimit
	}
	if e := check(s); e != api.OK {
		return e
	}
	at := 0
	for _, x := range s {
		taken, given := moves(x.Op)
		if at+taken > len(a) {
			return api.ErrState
		}
		// A Keep has no item that could differ.
		if x.Op != Keep && taken == given && turn(a[at], x.Item) != x.Op {
			return api.ErrState
		}
		at += taken
	}
	if at < len(a) {
		return api.ErrState
	}
	return api.OK
}
