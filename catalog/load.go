package catalog

import (
	"slices"
	"strings"

	"salchow/api"
	"salchow/ident"
)

// The words of the entries of a catalog.
const (
	wordGroup   = "group"
	wordClass   = "class"
	wordElement = "element"
	wordConnect = "connect"
)

// Load returns the catalog that the entries group, class, element and connect of a list declare, or the first fault. Other entries are passed over.
func Load(list []api.Clause) (api.Catalog, api.Fault) {
	l := &loader{groups: map[string]bool{}, classes: map[string]bool{}, elements: map[string]api.Element{}, pairs: map[[2]string]bool{}}
	for _, entry := range list {
		if fault := l.load(entry); fault.Code != api.OK {
			return api.Catalog{}, fault
		}
	}
	l.sort()
	return l.catalog, api.Fault{}
}

// loader has what the entries so far have declared.
type loader struct {
	catalog  api.Catalog
	groups   map[string]bool
	classes  map[string]bool
	elements map[string]api.Element
	pairs    map[[2]string]bool
}

// sort brings the lists of the catalog into their orders.
func (l *loader) sort() {
	slices.SortFunc(l.catalog.Groups, func(a, b api.Group) int { return strings.Compare(a.Name, b.Name) })
	slices.Sort(l.catalog.Classes)
	slices.SortFunc(l.catalog.Elements, func(a, b api.Element) int { return strings.Compare(a.Code, b.Code) })
	slices.SortFunc(l.catalog.Connects, comparePairs)
}

// load adds what an entry declares, or returns its first fault.
func (l *loader) load(entry api.Clause) api.Fault {
	switch entry.Word {
	case wordGroup:
		return l.group(entry)
	case wordClass:
		return l.class(entry)
	case wordElement:
		return l.element(entry)
	case wordConnect:
		return l.connect(entry)
	}
	return api.Fault{}
}

// group adds a group.
func (l *loader) group(entry api.Clause) api.Fault {
	atoms, fault := match(entry, "NAME limit N credit V")
	switch {
	case fault.Code != api.OK:
		return fault
	case len(l.catalog.Groups) == api.MaxGroups:
		return api.Fault{Code: api.ErrLimit, At: entry.At}
	}
	name, limit, credit := atoms[0], atoms[1], atoms[2]
	most := int(limit.N / 1000)
	switch {
	case !ident.Name(name.Text):
		return faultAt(api.ErrName, name)
	case l.groups[name.Text]:
		return faultAt(api.ErrTwice, name)
	case limit.N%1000 != 0 || !isLimit(most):
		return faultAt(api.ErrRange, limit)
	case !isAmount(credit.N):
		return faultAt(api.ErrRange, credit)
	}
	l.groups[name.Text] = true
	l.catalog.Groups = append(l.catalog.Groups, api.Group{Name: name.Text, Limit: most, Credit: credit.N})
	return api.Fault{}
}

// class adds a class.
func (l *loader) class(entry api.Clause) api.Fault {
	atoms, fault := match(entry, "NAME")
	switch {
	case fault.Code != api.OK:
		return fault
	case len(l.catalog.Classes) == api.MaxClasses:
		return api.Fault{Code: api.ErrLimit, At: entry.At}
	}
	name := atoms[0]
	switch {
	case !ident.Name(name.Text):
		return faultAt(api.ErrName, name)
	case l.classes[name.Text]:
		return faultAt(api.ErrTwice, name)
	}
	l.classes[name.Text] = true
	l.catalog.Classes = append(l.catalog.Classes, name.Text)
	return api.Fault{}
}

// element adds an element.
func (l *loader) element(entry api.Clause) api.Fault {
	atoms, fault := match(entry, "CODE group NAME value V", "class NAME", "lower CODE")
	switch {
	case fault.Code != api.OK:
		return fault
	case len(l.catalog.Elements) == api.MaxElements:
		return api.Fault{Code: api.ErrLimit, At: entry.At}
	}
	code, group, value, class, lower := atoms[0], atoms[1], atoms[2], atoms[3], atoms[4]
	_, isDeclared := l.elements[code.Text]
	below, hasBelow := l.elements[lower.Text]
	switch {
	case !ident.Code(code.Text):
		return faultAt(api.ErrName, code)
	case isDeclared:
		return faultAt(api.ErrTwice, code)
	case !l.groups[group.Text]:
		return faultAt(api.ErrName, group)
	case !isAmount(value.N):
		return faultAt(api.ErrRange, value)
	case class.Text != "" && !l.classes[class.Text]:
		return faultAt(api.ErrName, class)
	case lower.Text != "" && !hasBelow:
		return faultAt(api.ErrName, lower)
	case below.Value > value.N:
		return faultAt(api.ErrConflict, lower)
	}
	element := api.Element{Code: code.Text, Group: group.Text, Value: value.N, Class: class.Text, Lower: lower.Text}
	l.elements[code.Text] = element
	l.catalog.Elements = append(l.catalog.Elements, element)
	return api.Fault{}
}

// connect adds a connection bonus.
func (l *loader) connect(entry api.Clause) api.Fault {
	atoms, fault := match(entry, "CLASS CLASS value V")
	switch {
	case fault.Code != api.OK:
		return fault
	case len(l.catalog.Connects) == api.MaxConnects:
		return api.Fault{Code: api.ErrLimit, At: entry.At}
	}
	first, second, value := atoms[0], atoms[1], atoms[2]
	pair := [2]string{first.Text, second.Text}
	switch {
	case !l.classes[first.Text]:
		return faultAt(api.ErrName, first)
	case !l.classes[second.Text]:
		return faultAt(api.ErrName, second)
	case l.pairs[pair]:
		return faultAt(api.ErrTwice, second)
	case !isAmount(value.N):
		return faultAt(api.ErrRange, value)
	}
	l.pairs[pair] = true
	l.catalog.Connects = append(l.catalog.Connects, api.Connect{First: first.Text, Second: second.Text, Value: value.N})
	return api.Fault{}
}
