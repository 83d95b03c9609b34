package catalog

import (
	"cmp"
	"slices"
	"strings"

	"salchow/api"
	"salchow/ident"
)

// Check reports whether a catalog is valid: OK, or the first error.
func Check(c api.Catalog) api.Errno {
	switch {
	case len(c.Groups) > api.MaxGroups || len(c.Classes) > api.MaxClasses || len(c.Elements) > api.MaxElements || len(c.Connects) > api.MaxConnects:
		return api.ErrLimit
	case !declared(c) || !resolved(c):
		return api.ErrName
	case !increasing(c):
		return api.ErrTwice
	case !inRange(c):
		return api.ErrRange
	case !falling(c):
		return api.ErrConflict
	}
	return api.OK
}

// declared reports whether the names of the groups and classes and the codes are valid.
func declared(c api.Catalog) bool {
	for _, group := range c.Groups {
		if !ident.Name(group.Name) {
			return false
		}
	}
	for _, class := range c.Classes {
		if !ident.Name(class) {
			return false
		}
	}
	for _, element := range c.Elements {
		if !ident.Code(element.Code) {
			return false
		}
	}
	return true
}

// resolved reports whether all names to which elements and connects refer exist, those of groups and classes being valid.
func resolved(c api.Catalog) bool {
	groups := groupNames(c)
	elements := elementsOf(c)
	for _, element := range c.Elements {
		_, ok := elements[element.Lower]
		switch {
		case !ident.Has(groups, element.Group):
			return false
		case element.Class != "" && !ident.Has(c.Classes, element.Class):
			return false
		case element.Lower != "" && !ok:
			return false
		}
	}
	for _, connect := range c.Connects {
		if !ident.Has(c.Classes, connect.First) || !ident.Has(c.Classes, connect.Second) {
			return false
		}
	}
	return true
}

// groupNames returns the names of the groups, in their order.
func groupNames(c api.Catalog) []string {
	var names []string
	for _, group := range c.Groups {
		names = append(names, group.Name)
	}
	return names
}

// codes returns the codes of the elements, in their order.
func codes(c api.Catalog) []string {
	var list []string
	for _, element := range c.Elements {
		list = append(list, element.Code)
	}
	return list
}

// increasing reports whether all lists are strictly increasing.
func increasing(c api.Catalog) bool {
	for i := 1; i < len(c.Connects); i++ {
		if comparePairs(c.Connects[i-1], c.Connects[i]) >= 0 {
			return false
		}
	}
	return ident.Sorted(groupNames(c)) && ident.Sorted(c.Classes) && ident.Sorted(codes(c))
}

// comparePairs orders connects by their classes.
func comparePairs(a, b api.Connect) int {
	return cmp.Or(strings.Compare(a.First, b.First), strings.Compare(a.Second, b.Second))
}

// inRange reports whether all numbers of a catalog are in their ranges.
func inRange(c api.Catalog) bool {
	for _, group := range c.Groups {
		if !isLimit(group.Limit) || !isAmount(group.Credit) {
			return false
		}
	}
	for _, element := range c.Elements {
		if !isAmount(element.Value) {
			return false
		}
	}
	return !slices.ContainsFunc(c.Connects, func(connect api.Connect) bool { return !isAmount(connect.Value) })
}

// isLimit reports whether a number can be the limit of a group.
func isLimit(n int) bool { return n >= 1 && n <= api.MaxItems }

// isAmount reports whether a number of thousandths can be a value or a credit.
func isAmount(n int64) bool { return n >= 0 && n <= api.MaxMilli }

// falling reports whether the lower chains end and their values never rise, in a catalog with all codes once.
func falling(c api.Catalog) bool {
	elements := elementsOf(c)
	for _, element := range c.Elements {
		down := chain(elements, element.Code)
		if down[len(down)-1].Lower != "" {
			return false
		}
		if element.Lower != "" && elements[element.Lower].Value > element.Value {
			return false
		}
	}
	return true
}
