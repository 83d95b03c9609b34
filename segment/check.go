package segment

import (
	"slices"

	"salchow/api"
	"salchow/formula"
	"salchow/ident"
)

// Check returns OK for a valid segment of a catalog, or the first error.
func Check(c api.Catalog, s api.Segment) api.Errno {
	switch {
	case len(s.Panels) > api.MaxPanels || len(s.Penalties) > api.MaxPenalties:
		return api.ErrLimit
	case slices.ContainsFunc(s.Panels, isStrange) || !formula.Valid(s.Score):
		return api.ErrArgument
	case !isNamed(c, s):
		return api.ErrName
	case !isIncreasing(s):
		return api.ErrTwice
	case !isInRange(s):
		return api.ErrRange
	}
	return api.OK
}

// isStrange reports whether a panel is of no kind, or has a scale that its kind does not use.
func isStrange(p api.Panel) bool {
	switch p.Kind {
	case api.PanelOverall:
		return p.Scale != 0
	case api.PanelElements:
		return false
	}
	return true
}

// isNamed reports whether all names of a segment are allowed, and all groups and variables exist.
func isNamed(c api.Catalog, s api.Segment) bool {
	groups := groupsOf(c)
	isUnknown := func(r api.Require) bool { return !groups[r.Group] }
	isUnnamed := func(p api.Penalty) bool { return !ident.Name(p.Name) }
	isForbidden := func(p api.Panel) bool { return !isPanelName(p.Name) }
	switch {
	case !ident.Name(s.Name):
		return false
	case slices.ContainsFunc(s.Requires, isUnknown) || slices.ContainsFunc(s.Penalties, isUnnamed) || slices.ContainsFunc(s.Panels, isForbidden):
		return false
	}
	return ident.Subset(formula.Variables(s.Score), Variables(s))
}

// groupsOf returns the names of the groups of a catalog.
func groupsOf(c api.Catalog) map[string]bool {
	groups := map[string]bool{}
	for _, group := range c.Groups {
		groups[group.Name] = true
	}
	return groups
}

// isPanelName reports whether a panel can have a name.
func isPanelName(name string) bool {
	switch name {
	case nameDifficulty, namePenalties, "best", "total":
		return false
	}
	return ident.Name(name)
}

// isIncreasing reports whether all lists of a segment are strictly increasing.
func isIncreasing(s api.Segment) bool {
	groups := namesOf(s.Requires, func(r api.Require) string { return r.Group })
	penalties := namesOf(s.Penalties, func(p api.Penalty) string { return p.Name })
	panels := namesOf(s.Panels, func(p api.Panel) string { return p.Name })
	return ident.Sorted(groups) && ident.Sorted(penalties) && ident.Sorted(panels)
}

// namesOf returns the names in a list, in its order.
func namesOf[T any](list []T, nameOf func(T) string) []string {
	var names []string
	for _, x := range list {
		names = append(names, nameOf(x))
	}
	return names
}

// isInRange reports whether all numbers of a segment are in their ranges.
func isInRange(s api.Segment) bool {
	for _, require := range s.Requires {
		if requireOutside(require) != "" {
			return false
		}
	}
	for _, penalty := range s.Penalties {
		if penaltyOutside(penalty) != "" {
			return false
		}
	}
	for _, panel := range s.Panels {
		if panelOutside(panel) != "" {
			return false
		}
	}
	return isItems(s.Count) && isItems(s.Repeat) && isAmount(s.Connections)
}

// requireOutside returns the place of the first number of a requirement that is outside its range, or nothing.
func requireOutside(r api.Require) string {
	switch {
	case !isItems(r.Least):
		return placeN
	case !isAmount(r.Deduct):
		return placeV
	}
	return ""
}

// penaltyOutside returns the place of the first number of a penalty that is outside its range, or nothing.
func penaltyOutside(p api.Penalty) string {
	switch {
	case !isAmount(p.Value):
		return placeV
	case !isItems(p.Most):
		return placeN
	}
	return ""
}

// panelOutside returns the place of the first number of a panel that is outside its range, or nothing.
func panelOutside(p api.Panel) string {
	switch {
	case p.Lo < -api.MaxMilli || p.Lo > api.MaxMilli:
		return placeLo
	case !isAmount(p.Hi) || p.Hi < p.Lo:
		return placeHi
	case !isAmount(p.Step) || p.Step == 0:
		return placeStep
	case p.Judges < 1 || p.Judges > api.MaxJudges:
		return placeN
	case p.Least < 1 || p.Least > p.Judges:
		return placeM
	case p.Drop < 0 || p.Drop > api.MaxJudges:
		return placeD
	case !isAmount(p.Tolerance):
		return placeT
	case !isAmount(p.Scale):
		return placeV
	}
	return ""
}

// isItems reports whether a whole number can be a number of items or of times.
func isItems(n int) bool { return n >= 1 && n <= api.MaxItems }

// isAmount reports whether a number of thousandths that has no sign is not too great.
func isAmount(n int64) bool { return n >= 0 && n <= api.MaxMilli }
