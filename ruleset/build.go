package ruleset

import (
	"slices"
	"strings"

	"salchow/api"
	"salchow/catalog"
	"salchow/ident"
	"salchow/segment"
)

// The greatest numbers of the entries discipline and publish.
const (
	maxSeason = 9999
	maxDigits = 3
)

// Build returns the ruleset of parsed clauses, or the first fault.
func Build(clauses []api.Clause) (api.Ruleset, api.Fault) {
	b := &builder{clauses: clauses, seen: map[string]int{}, segments: map[string]bool{}, panels: map[string]bool{}}
	for _, step := range []func() api.Fault{b.begin, b.entries, b.catalog, b.allSegments, b.knownTies, b.complete} {
		if fault := step(); fault.Code != api.OK {
			return api.Ruleset{}, fault
		}
	}
	return b.ruleset, api.Fault{}
}

// builder has the entries of a ruleset, and what they have declared so far.
type builder struct {
	clauses  []api.Clause
	ruleset  api.Ruleset
	seen     map[string]int // how many entries have a word
	segments map[string]bool
	panels   map[string]bool
	ties     []api.Token
}

// begin returns the fault of entries of which the first one is not discipline.
func (b *builder) begin() api.Fault {
	switch {
	case len(b.clauses) == 0:
		return api.Fault{Code: api.ErrOrder}
	case b.clauses[0].Word != wordDiscipline:
		return api.Fault{Code: api.ErrOrder, At: b.clauses[0].At}
	}
	return api.Fault{}
}

// entries reads what stands outside of the catalog and the segments, and returns the first fault in the order of all entries.
func (b *builder) entries() api.Fault {
	for _, entry := range b.clauses {
		if fault := b.entry(entry); fault.Code != api.OK {
			return fault
		}
		b.seen[entry.Word]++
	}
	return api.Fault{}
}

// entry reads an entry, if it does not belong to the catalog or to a segment, or returns its fault.
func (b *builder) entry(entry api.Clause) api.Fault {
	switch entry.Word {
	case wordDiscipline:
		return b.once(entry, b.discipline)
	case wordPublish:
		return b.once(entry, b.publish)
	case wordRank:
		return b.once(entry, b.rank)
	case wordTie:
		return b.once(entry, b.tie)
	case wordGroup, wordClass, wordElement, wordConnect:
		if b.seen[wordSegment] > 0 {
			return api.Fault{Code: api.ErrOrder, At: entry.At}
		}
		return api.Fault{}
	case wordSegment:
		if b.seen[wordSegment] >= api.MaxSegments {
			return api.Fault{Code: api.ErrLimit, At: entry.At}
		}
		return api.Fault{}
	}
	return api.Fault{Code: api.ErrSyntax, At: entry.At}
}

// once reads the atoms of an entry that may stand there only once, or returns its fault.
func (b *builder) once(entry api.Clause, read func(atoms []api.Token) api.Fault) api.Fault {
	if fault := match(entry); fault.Code != api.OK {
		return fault
	}
	if b.seen[entry.Word] > 0 {
		return api.Fault{Code: api.ErrTwice, At: entry.At}
	}
	return read(entry.Atoms)
}

// discipline sets the name and the season.
func (b *builder) discipline(atoms []api.Token) api.Fault {
	name, season := atoms[0], atoms[2]
	switch {
	case !ident.Name(name.Text):
		return faultAt(api.ErrName, name)
	case !isWhole(season, 1, maxSeason):
		return faultAt(api.ErrRange, season)
	}
	b.ruleset.Name, b.ruleset.Season = name.Text, int(season.N/1000)
	return api.Fault{}
}

// publish sets the digits and the mode of publication.
func (b *builder) publish(atoms []api.Token) api.Fault {
	digits := atoms[0]
	if !isWhole(digits, 0, maxDigits) {
		return faultAt(api.ErrRange, digits)
	}
	b.ruleset.Digits = int(digits.N / 1000)
	switch atoms[1].Text {
	case wordDown:
		b.ruleset.Mode = api.Down
	case wordHalfUp:
		b.ruleset.Mode = api.HalfUp
	case wordHalfEven:
		b.ruleset.Mode = api.HalfEven
	}
	return api.Fault{}
}

// rank sets by which scores is ranked.
func (b *builder) rank(atoms []api.Token) api.Fault {
	b.ruleset.Exact = atoms[0].Text == wordExact
	return api.Fault{}
}

// tie sets the criteria.
func (b *builder) tie(atoms []api.Token) api.Fault {
	before := map[string]bool{}
	for i, criterion := range atoms {
		switch {
		case i == api.MaxTies:
			return faultAt(api.ErrLimit, criterion)
		case before[criterion.Text]:
			return faultAt(api.ErrTwice, criterion)
		}
		before[criterion.Text] = true
		b.ties = append(b.ties, criterion)
		b.ruleset.Ties = append(b.ruleset.Ties, criterion.Text)
	}
	return api.Fault{}
}

// catalog sets the catalog.
func (b *builder) catalog() (fault api.Fault) {
	b.ruleset.Catalog, fault = catalog.Load(b.clauses)
	return fault
}

// allSegments adds the segments and sorts them.
func (b *builder) allSegments() api.Fault {
	for _, entry := range b.clauses {
		if entry.Word != wordSegment {
			continue
		}
		if fault := b.segment(entry); fault.Code != api.OK {
			return fault
		}
	}
	slices.SortFunc(b.ruleset.Segments, func(x, y api.Segment) int { return strings.Compare(x.Name, y.Name) })
	return api.Fault{}
}

// segment adds a segment.
func (b *builder) segment(entry api.Clause) api.Fault {
	s, fault := segment.Load(b.ruleset.Catalog, entry)
	if fault.Code != api.OK {
		return fault
	}
	for _, panel := range s.Panels {
		b.panels[panel.Name] = true
	}
	name := entry.Atoms[0]
	isTaken := func(panel api.Panel) bool { return b.segments[panel.Name] }
	switch {
	case isReserved(s.Name):
		return faultAt(api.ErrName, name)
	case b.segments[s.Name] || b.panels[s.Name] || slices.ContainsFunc(s.Panels, isTaken):
		return faultAt(api.ErrTwice, name)
	}
	b.segments[s.Name] = true
	b.ruleset.Segments = append(b.ruleset.Segments, s)
	return api.Fault{}
}

// isReserved reports whether a word is no name of a segment.
func isReserved(name string) bool {
	switch name {
	case nameDifficulty, namePenalties, nameBest, nameTotal:
		return true
	}
	return false
}

// knownTies returns the fault of a criterion that the ruleset does not have.
func (b *builder) knownTies() api.Fault {
	for _, criterion := range b.ties {
		if Criterion(b.ruleset, criterion.Text) == None {
			return faultAt(api.ErrName, criterion)
		}
	}
	return api.Fault{}
}

// complete returns the fault of entries of which a necessary one is lacking.
func (b *builder) complete() api.Fault {
	for _, needed := range []string{wordPublish, wordRank, wordSegment} {
		if b.seen[needed] == 0 {
			return api.Fault{Code: api.ErrNone, At: b.clauses[0].At}
		}
	}
	return api.Fault{}
}
