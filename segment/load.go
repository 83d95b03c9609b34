package segment

import (
	"slices"
	"strings"

	"salchow/api"
	"salchow/formula"
	"salchow/ident"
)

// Load returns the segment that an entry describes.
func Load(c api.Catalog, k api.Clause) (api.Segment, api.Fault) {
	if fault := headFault(k); fault.Code != api.OK {
		return api.Segment{}, fault
	}
	l := &loader{groups: groupsOf(c), seen: map[[2]string]bool{}}
	l.segment.Name = k.Atoms[0].Text
	for _, entry := range k.Kids {
		if fault := l.load(entry); fault.Code != api.OK {
			return api.Segment{}, fault
		}
	}
	for _, needed := range []string{wordCount, wordRepeat, wordConnections, wordScore} {
		if !l.seen[[2]string{needed}] {
			return api.Segment{}, api.Fault{Code: api.ErrSyntax, At: k.At}
		}
	}
	l.sort()
	return l.segment, api.Fault{}
}

// headFault returns the fault of an entry of a segment outside of its block.
func headFault(k api.Clause) api.Fault {
	switch {
	case k.Word != wordSegment || len(k.Atoms) == 0 || !k.Block:
		return api.Fault{Code: api.ErrSyntax, At: k.At}
	case k.Atoms[0].Kind != api.TokWord:
		return faultAt(api.ErrSyntax, k.Atoms[0])
	case len(k.Atoms) > 1:
		return faultAt(api.ErrSyntax, k.Atoms[1])
	case !ident.Name(k.Atoms[0].Text):
		return faultAt(api.ErrName, k.Atoms[0])
	}
	return api.Fault{}
}

// loader has what the entries so far have declared.
type loader struct {
	segment api.Segment
	groups  map[string]bool    // of the catalog
	seen    map[[2]string]bool // the words of entries, and the names or groups behind them
}

// sort brings the lists of the segment into their orders.
func (l *loader) sort() {
	slices.SortFunc(l.segment.Requires, func(a, b api.Require) int { return strings.Compare(a.Group, b.Group) })
	slices.SortFunc(l.segment.Penalties, func(a, b api.Penalty) int { return strings.Compare(a.Name, b.Name) })
	slices.SortFunc(l.segment.Panels, func(a, b api.Panel) int { return strings.Compare(a.Name, b.Name) })
}

// load adds what an entry of the block declares, or returns its first fault.
func (l *loader) load(entry api.Clause) api.Fault {
	switch entry.Word {
	case wordCount:
		return l.items(entry, &l.segment.Count)
	case wordRepeat:
		return l.items(entry, &l.segment.Repeat)
	case wordConnections:
		return l.connections(entry)
	case wordRequire:
		return l.require(entry)
	case wordPenalty:
		return l.penalty(entry)
	case wordPanel:
		return l.panel(entry)
	case wordScore:
		return l.score(entry)
	}
	return api.Fault{Code: api.ErrSyntax, At: entry.At}
}

// once notes an entry that may stand there only once, or returns its fault.
func (l *loader) once(entry api.Clause) api.Fault {
	key := [2]string{entry.Word}
	if l.seen[key] {
		return api.Fault{Code: api.ErrTwice, At: entry.At}
	}
	l.seen[key] = true
	return api.Fault{}
}

// items sets a number of items.
func (l *loader) items(entry api.Clause, n *int) api.Fault {
	atoms, fault := match(entry, formItems)
	if fault.Code == api.OK {
		fault = l.once(entry)
	}
	if fault.Code != api.OK {
		return fault
	}
	*n = wholeOf(atoms[placeN])
	if !isItems(*n) {
		return faultAt(api.ErrRange, atoms[placeN])
	}
	return api.Fault{}
}

// connections sets the greatest bonus for connections.
func (l *loader) connections(entry api.Clause) api.Fault {
	atoms, fault := match(entry, formAmount)
	if fault.Code == api.OK {
		fault = l.once(entry)
	}
	if fault.Code != api.OK {
		return fault
	}
	l.segment.Connections = atoms[placeV].N
	if !isAmount(l.segment.Connections) {
		return faultAt(api.ErrRange, atoms[placeV])
	}
	return api.Fault{}
}

// require adds a requirement.
func (l *loader) require(entry api.Clause) api.Fault {
	atoms, fault := match(entry, formRequire)
	if fault.Code != api.OK {
		return fault
	}
	group := atoms[placeGroup]
	key := [2]string{wordRequire, group.Text}
	require := api.Require{Group: group.Text, Least: wholeOf(atoms[placeN]), Deduct: atoms[placeV].N}
	outside := requireOutside(require)
	switch {
	case !l.groups[group.Text]:
		return faultAt(api.ErrName, group)
	case l.seen[key]:
		return faultAt(api.ErrTwice, group)
	case outside != "":
		return faultAt(api.ErrRange, atoms[outside])
	}
	l.seen[key] = true
	l.segment.Requires = append(l.segment.Requires, require)
	return api.Fault{}
}

// penalty adds a penalty.
func (l *loader) penalty(entry api.Clause) api.Fault {
	atoms, fault := match(entry, formPenalty)
	switch {
	case fault.Code != api.OK:
		return fault
	case len(l.segment.Penalties) == api.MaxPenalties:
		return api.Fault{Code: api.ErrLimit, At: entry.At}
	}
	name := atoms[placeName]
	key := [2]string{wordPenalty, name.Text}
	penalty := api.Penalty{Name: name.Text, Value: atoms[placeV].N, Most: wholeOf(atoms[placeN])}
	outside := penaltyOutside(penalty)
	switch {
	case !ident.Name(name.Text):
		return faultAt(api.ErrName, name)
	case l.seen[key]:
		return faultAt(api.ErrTwice, name)
	case outside != "":
		return faultAt(api.ErrRange, atoms[outside])
	}
	l.seen[key] = true
	l.segment.Penalties = append(l.segment.Penalties, penalty)
	return api.Fault{}
}

// panel adds a panel.
func (l *loader) panel(entry api.Clause) api.Fault {
	atoms, fault := match(entry, panelForm(entry))
	switch {
	case fault.Code != api.OK:
		return fault
	case len(l.segment.Panels) == api.MaxPanels:
		return api.Fault{Code: api.ErrLimit, At: entry.At}
	}
	name := atoms[placeName]
	key := [2]string{wordPanel, name.Text}
	panel := panelOf(atoms)
	outside := panelOutside(panel)
	switch {
	case !isPanelName(name.Text):
		return faultAt(api.ErrName, name)
	case l.seen[key]:
		return faultAt(api.ErrTwice, name)
	case outside != "":
		return faultAt(api.ErrRange, atoms[outside])
	}
	l.seen[key] = true
	l.segment.Panels = append(l.segment.Panels, panel)
	return api.Fault{}
}

// panelForm returns the form that an entry of a panel has to have.
func panelForm(entry api.Clause) string {
	if len(entry.Atoms) > 1 && fits(wordElements, entry.Atoms[1]) {
		return formElements
	}
	return formOverall
}

// panelOf returns the panel of the atoms of an entry.
func panelOf(atoms map[string]api.Token) api.Panel {
	panel := api.Panel{
		Name:      atoms[placeName].Text,
		Kind:      api.PanelOverall,
		Lo:        atoms[placeLo].N,
		Hi:        atoms[placeHi].N,
		Step:      atoms[placeStep].N,
		Judges:    wholeOf(atoms[placeN]),
		Least:     wholeOf(atoms[placeM]),
		Drop:      wholeOf(atoms[placeD]),
		Tolerance: atoms[placeT].N,
		Scale:     atoms[placeV].N,
	}
	if _, elements := atoms[wordElements]; elements {
		panel.Kind = api.PanelElements
	}
	if _, negative := atoms[placeMinus]; negative {
		panel.Lo = -panel.Lo
	}
	return panel
}

// score sets the formula.
func (l *loader) score(entry api.Clause) api.Fault {
	if len(entry.Atoms) == 0 || entry.Block {
		return api.Fault{Code: api.ErrSyntax, At: entry.At}
	}
	if fault := l.once(entry); fault.Code != api.OK {
		return fault
	}
	x, fault := formula.Parse(entry.Atoms)
	if fault.Code != api.OK {
		return fault
	}
	// The words of a formula that are no variables of it are min and max.
	allowed := slices.Concat(Variables(l.segment), []string{"min", "max"})
	for _, atom := range entry.Atoms {
		if atom.Kind == api.TokWord && !ident.Has(allowed, atom.Text) {
			return faultAt(api.ErrName, atom)
		}
	}
	l.segment.Score = x
	return api.Fault{}
}
