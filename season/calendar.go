package season

import (
	"slices"

	"salchow/api"
	"salchow/ruleset"
)

// MaxVersions is the greatest number of versions of a calendar.
const MaxVersions = 40

// Calendar reports whether versions are those of a discipline: OK, or the first error.
func Calendar(list []api.Version) api.Errno {
	isInvalid := func(v api.Version) bool { return !ruleset.Valid(v.Rules) }
	isForeign := func(v api.Version) bool { return v.Rules.Name != list[0].Rules.Name }
	switch {
	case len(list) > MaxVersions:
		return api.ErrLimit
	case slices.ContainsFunc(list, isInvalid):
		return api.ErrArgument
	case slices.ContainsFunc(list, isForeign):
		return api.ErrName
	}
	for i := 1; i < len(list); i++ {
		if list[i-1].Day >= list[i].Day {
			return api.ErrOrder
		}
	}
	return api.OK
}

// InForce returns the index of the version that is in force on a day.
func InForce(list []api.Version, day int) (int, api.Errno) {
	for i, v := range slices.Backward(list) {
		if v.Day <= day {
			return i, api.OK
		}
	}
	return 0, api.ErrNone
}
