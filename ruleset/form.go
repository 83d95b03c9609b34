package ruleset

import (
	"slices"
	"strings"

	"salchow/api"
)

// The words of the entries.
const (
	wordDiscipline = "discipline"
	wordPublish    = "publish"
	wordRank       = "rank"
	wordGroup      = "group"
	wordClass      = "class"
	wordElement    = "element"
	wordConnect    = "connect"
	wordTie        = "tie"
	wordSegment    = "segment"
)

// The words within the entries.
const (
	wordSeason    = "season"
	wordDown      = "down"
	wordHalfUp    = "half_up"
	wordHalfEven  = "half_even"
	wordExact     = "exact"
	wordPublished = "published"
)

// The places of forms: placeWord stands for any word, placeNumber for any number, and other places for one of the words in them.
const (
	placeWord   = "WORD"
	placeNumber = "NUMBER"
)

// formOf returns the places of the atoms of an entry that is discipline, publish, rank or tie.
func formOf(entry api.Clause) []string {
	switch entry.Word {
	case wordDiscipline:
		return []string{placeWord, wordSeason, placeNumber}
	case wordPublish:
		return []string{placeNumber, wordDown + " " + wordHalfUp + " " + wordHalfEven}
	case wordRank:
		return []string{wordExact + " " + wordPublished}
	}
	return slices.Repeat([]string{placeWord}, max(1, len(entry.Atoms)))
}

// match returns the fault of an entry that does not have its form.
func match(entry api.Clause) api.Fault {
	form := formOf(entry)
	fits := func(i int) bool {
		if i >= len(form) {
			return false
		}
		atom := entry.Atoms[i]
		switch form[i] {
		case placeNumber:
			return atom.Kind == api.TokNumber
		case placeWord:
			return atom.Kind == api.TokWord
		}
		return atom.Kind == api.TokWord && slices.Contains(strings.Fields(form[i]), atom.Text)
	}
	for i, atom := range entry.Atoms {
		if !fits(i) {
			return faultAt(api.ErrSyntax, atom)
		}
	}
	if len(entry.Atoms) < len(form) || entry.Block {
		return api.Fault{Code: api.ErrSyntax, At: entry.At}
	}
	return api.Fault{}
}

// isWhole reports whether an atom is a whole number from least to most.
func isWhole(atom api.Token, least, most int64) bool {
	return atom.N%1000 == 0 && atom.N >= 1000*least && atom.N <= 1000*most
}

// faultAt returns a fault at an atom.
func faultAt(code api.Errno, atom api.Token) api.Fault {
	return api.Fault{Code: code, At: atom.At}
}
