package consistency

import (
	"slices"

	"salchow/api"
	"salchow/catalog"
)

// examineGroups adds the findings about groups: limits that no line can reach, and credits that no element earns.
func examineGroups(r api.Ruleset, add func(f Finding)) {
	for _, g := range r.Catalog.Groups {
		if len(elements(r.Catalog, g.Name)) == 0 && g.Credit > 0 {
			add(Finding{Kind: NoCredit, Name: g.Name, N: g.Credit})
		}
	}
groups:
	for _, g := range r.Catalog.Groups {
		for _, s := range r.Segments {
			if min(s.Count, s.Repeat*len(elements(r.Catalog, g.Name))) >= g.Limit {
				continue groups
			}
		}
		add(Finding{Kind: Idle, Name: g.Name, N: int64(g.Limit)})
	}
}

// examineClasses adds the findings about classes and connects that no elements have.
func examineClasses(c api.Catalog, add func(f Finding)) {
	isUsed := func(class string) bool {
		return slices.ContainsFunc(c.Elements, func(x api.Element) bool { return x.Class == class })
	}
	for _, class := range c.Classes {
		if !isUsed(class) {
			add(Finding{Kind: Unused, Name: class})
		}
	}
	for _, connect := range c.Connects {
		if !isUsed(connect.First) || !isUsed(connect.Second) {
			add(Finding{Kind: Strange, Name: connect.First + "+" + connect.Second, N: connect.Value})
		}
	}
}

// examineElements adds the findings about elements that are worth no more than the one a step down.
func examineElements(c api.Catalog, add func(f Finding)) {
	for _, x := range c.Elements {
		lower, e := catalog.Lookup(c, x.Lower)
		if e == api.OK && lower.Value == x.Value {
			add(Finding{Kind: Dominated, Name: x.Code, N: x.Value})
		}
	}
}

// elements returns the elements of a group.
func elements(c api.Catalog, group string) []api.Element {
	var list []api.Element
	for _, x := range c.Elements {
		if x.Group == group {
			list = append(list, x)
		}
	}
	return list
}

// valued returns the elements of a group that have a value.
func valued(c api.Catalog, group string) []api.Element {
	isWorthless := func(x api.Element) bool { return x.Value == 0 }
	return slices.DeleteFunc(elements(c, group), isWorthless)
}
