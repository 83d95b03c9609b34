package ruleset

import (
	"salchow/api"
	"salchow/catalog"
	"salchow/printer"
	"salchow/segment"
)

// Valid reports whether r is a ruleset as Load returns.
func Valid(r api.Ruleset) bool {
	_, ok := canonical(r)
	return ok
}

// Source returns the canonical source of a ruleset.
func Source(r api.Ruleset) (string, api.Errno) {
	clauses, ok := canonical(r)
	if !ok {
		return "", api.ErrArgument
	}
	return printer.Print(clauses)
}

// canonical returns the canonical entries of a ruleset, and whether it is valid.
func canonical(r api.Ruleset) ([]api.Clause, bool) {
	clauses, ok := written(r)
	if !ok {
		return nil, false
	}
	// If Build returns the ruleset for any entries, it does so for these.
	built, fault := Build(clauses)
	if fault.Code != api.OK || !Equal(built, r) {
		return nil, false
	}
	return clauses, true
}

// written returns the entries of a ruleset with a valid catalog and valid segments, or false for another one.
func written(r api.Ruleset) ([]api.Clause, bool) {
	if catalog.Check(r.Catalog) != api.OK {
		return nil, false
	}
	rank := wordPublished
	if r.Exact {
		rank = wordExact
	}
	clauses := []api.Clause{
		clause(wordDiscipline, word(r.Name), word(wordSeason), whole(r.Season)),
		clause(wordPublish, whole(r.Digits), word(modeWord(r.Mode))),
		clause(wordRank, word(rank)),
	}
	clauses = append(clauses, catalog.Clauses(r.Catalog)...)
	for _, s := range r.Segments {
		entry, e := segment.Clause(r.Catalog, s)
		if e != api.OK {
			return nil, false
		}
		clauses = append(clauses, entry)
	}
	if len(r.Ties) > 0 {
		tie := clause(wordTie)
		for _, criterion := range r.Ties {
			tie.Atoms = append(tie.Atoms, word(criterion))
		}
		clauses = append(clauses, tie)
	}
	return clauses, true
}

// modeWord returns the word of a mode of rounding, or nothing.
func modeWord(mode int) string {
	switch mode {
	case api.Down:
		return wordDown
	case api.HalfUp:
		return wordHalfUp
	case api.HalfEven:
		return wordHalfEven
	}
	return ""
}

// clause returns an entry without a block.
func clause(name string, atoms ...api.Token) api.Clause {
	return api.Clause{Word: name, Atoms: atoms}
}

// word returns the token of a word.
func word(text string) api.Token { return api.Token{Kind: api.TokWord, Text: text} }

// whole returns the token of a whole number.
func whole(n int) api.Token { return api.Token{Kind: api.TokNumber, N: 1000 * int64(n)} }
