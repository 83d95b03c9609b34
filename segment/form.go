package segment

import (
	"strings"

	"salchow/api"
)

// The words of the entries.
const (
	wordSegment     = "segment"
	wordCount       = "count"
	wordRepeat      = "repeat"
	wordConnections = "connections"
	wordRequire     = "require"
	wordPenalty     = "penalty"
	wordPanel       = "panel"
	wordScore       = "score"
)

// The places of forms: a capital word stands for an atom, placeMinus for a sign that may be left out, and every other word for itself.
const (
	placeName  = "NAME"
	placeGroup = "GROUP"
	placeMinus = "[-]"
	placeLo    = "LO"
	placeHi    = "HI"
	placeStep  = "STEP"
	placeN     = "N"
	placeM     = "M"
	placeD     = "D"
	placeT     = "T"
	placeV     = "V"
)

// The forms of the entries in the block of a segment; that of score is any formula.
const (
	formItems    = "N"
	formAmount   = "V"
	formRequire  = "GROUP least N deduct V"
	formPenalty  = "NAME value V most N"
	formOverall  = "NAME overall [-] LO to HI step STEP judges N least M drop D tolerance T"
	formElements = "NAME elements [-] LO to HI step STEP judges N least M drop D tolerance T scale V"
)

// The word of a form that stands in those of the panels of one kind only.
const wordElements = "elements"

// match returns the atoms of an entry by their places in its form, or the fault of an entry that does not have the form.
func match(entry api.Clause, form string) (map[string]api.Token, api.Fault) {
	found := map[string]api.Token{}
	rest := entry.Atoms
	complete := true
places:
	for place := range strings.FieldsSeq(form) {
		switch {
		case len(rest) > 0 && fits(place, rest[0]):
			found[place] = rest[0]
			rest = rest[1:]
		case place != placeMinus:
			complete = false
			break places
		}
	}
	switch {
	case len(rest) > 0:
		return nil, faultAt(api.ErrSyntax, rest[0])
	case !complete || entry.Block:
		return nil, api.Fault{Code: api.ErrSyntax, At: entry.At}
	}
	return found, api.Fault{}
}

// fits reports whether an atom can stand at a place of a form.
func fits(place string, atom api.Token) bool {
	isCapital := place == strings.ToUpper(place)
	switch {
	case place == placeMinus:
		return atom.Kind == api.TokSign && atom.Text == "-"
	case place == placeName || place == placeGroup:
		return atom.Kind == api.TokWord
	case isCapital:
		return atom.Kind == api.TokNumber
	}
	return atom.Kind == api.TokWord && atom.Text == place
}

// fill returns an entry that has the given atoms at places of its form.
func fill(name, form string, atoms map[string]api.Token) api.Clause {
	entry := api.Clause{Word: name}
	for place := range strings.FieldsSeq(form) {
		atom, given := atoms[place]
		switch {
		case given:
			entry.Atoms = append(entry.Atoms, atom)
		case place != placeMinus:
			entry.Atoms = append(entry.Atoms, word(place))
		}
	}
	return entry
}

// word returns the token of a word.
func word(text string) api.Token { return api.Token{Kind: api.TokWord, Text: text} }

// number returns the token of a number of thousandths.
func number(n int64) api.Token { return api.Token{Kind: api.TokNumber, N: n} }

// whole returns the token of a whole number.
func whole(n int) api.Token { return number(1000 * int64(n)) }

// wholeOf returns the whole number of a token; of one that has another number it returns -1, which is outside the range of every whole number.
func wholeOf(atom api.Token) int {
	if atom.N%1000 != 0 {
		return -1
	}
	return int(atom.N / 1000)
}

// faultAt returns a fault at an atom.
func faultAt(code api.Errno, atom api.Token) api.Fault {
	return api.Fault{Code: code, At: atom.At}
}
