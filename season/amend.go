package season

import (
	"maps"
	"slices"

	"salchow/api"
)

// Diff returns the changes that lead from a to b, sorted by key.
func Diff(a, b api.Ruleset) ([]api.Amend, api.Errno) {
	before, e := values(a)
	if e != api.OK {
		return nil, e
	}
	after, e := values(b)
	if e != api.OK {
		return nil, e
	}
	return changes(before, after), api.OK
}

// Apply returns the ruleset after changes.
func Apply(r api.Ruleset, list []api.Amend) (api.Ruleset, api.Errno) {
	valueOf, e := values(r)
	switch {
	case e != api.OK:
		return api.Ruleset{}, e
	case !isOrderly(list):
		return api.Ruleset{}, api.ErrOrder
	}
	for _, amend := range list {
		if valueOf[amend.Key] != amend.Old {
			return api.Ruleset{}, api.ErrConflict
		}
		valueOf[amend.Key] = amend.New
	}
	var parts []api.Part
	for _, key := range slices.Sorted(maps.Keys(valueOf)) {
		if valueOf[key] != "" {
			parts = append(parts, api.Part{Key: key, Value: valueOf[key]})
		}
	}
	return Build(parts)
}

// Invert returns the changes that lead back.
func Invert(list []api.Amend) []api.Amend {
	var inverse []api.Amend
	for _, amend := range list {
		inverse = append(inverse, api.Amend{Key: amend.Key, Old: amend.New, New: amend.Old})
	}
	return inverse
}

// Compose returns the changes that have the effect of both lists, one after the other.
func Compose(first, second []api.Amend) ([]api.Amend, api.Errno) {
	if !isOrderly(first) || !isOrderly(second) {
		return nil, api.ErrOrder
	}
	before, after := map[string]string{}, map[string]string{}
	for _, amend := range first {
		before[amend.Key], after[amend.Key] = amend.Old, amend.New
	}
	for _, amend := range second {
		between, ok := after[amend.Key]
		switch {
		case !ok:
			before[amend.Key] = amend.Old
		case between != amend.Old:
			return nil, api.ErrConflict
		}
		after[amend.Key] = amend.New
	}
	return changes(before, after), api.OK
}

// values returns the values of the parts of a ruleset by their keys.
func values(r api.Ruleset) (map[string]string, api.Errno) {
	parts, e := Parts(r)
	if e != api.OK {
		return nil, e
	}
	valueOf := map[string]string{}
	for _, p := range parts {
		valueOf[p.Key] = p.Value
	}
	return valueOf, api.OK
}

// changes returns the changes between two maps from keys to values; a key that a map lacks has an empty value.
func changes(before, after map[string]string) []api.Amend {
	keys := map[string]bool{}
	for key := range before {
		keys[key] = true
	}
	for key := range after {
		keys[key] = true
	}
	var list []api.Amend
	for _, key := range slices.Sorted(maps.Keys(keys)) {
		if before[key] != after[key] {
			list = append(list, api.Amend{Key: key, Old: before[key], New: after[key]})
		}
	}
	return list
}

// isOrderly reports whether a list has the changes of different keys in order, of which each one changes something.
func isOrderly(list []api.Amend) bool {
	key := func(amend api.Amend) string { return amend.Key }
	isIdle := func(amend api.Amend) bool { return amend.Old == amend.New }
	return isIncreasing(list, key) && !slices.ContainsFunc(list, isIdle)
}
