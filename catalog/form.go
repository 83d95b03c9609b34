package catalog

import (
	"strings"

	"salchow/api"
)

// match returns the atoms of an entry for which the capital words of its form stand, or the fault of an entry that does not have the form. Options are the parts that may be left out at the end, each with one capital word; if one is left out, its atom is the zero value.
func match(entry api.Clause, form string, options ...string) ([]api.Token, api.Fault) {
	r := reader{rest: entry.Atoms}
	ok := r.take(form)
	for _, option := range options {
		ok = ok && r.takeOption(option)
	}
	switch {
	case len(r.rest) > 0:
		return nil, faultAt(api.ErrSyntax, r.rest[0])
	case !ok || entry.Block:
		return nil, api.Fault{Code: api.ErrSyntax, At: entry.At}
	}
	return r.found, api.Fault{}
}

// faultAt returns a fault at an atom.
func faultAt(code api.Errno, atom api.Token) api.Fault {
	return api.Fault{Code: code, At: atom.At}
}

// reader has the atoms of an entry that are left, and those for which capital words stood.
type reader struct {
	rest, found []api.Token
}

// take goes behind the atoms of a part of a form, and reports whether they fit; if not, it stops at the first one that does not.
func (r *reader) take(part string) bool {
	for word := range strings.FieldsSeq(part) {
		if !r.fits(word) {
			return false
		}
		if isCapital(word) {
			r.found = append(r.found, r.rest[0])
		}
		r.rest = r.rest[1:]
	}
	return true
}

// takeOption is like take, but the part may be left out: it is there if its first word is.
func (r *reader) takeOption(part string) bool {
	first, _, _ := strings.Cut(part, " ")
	if !r.fits(first) {
		r.found = append(r.found, api.Token{})
		return true
	}
	return r.take(part)
}

// fits reports whether a word of a form can stand for the next atom.
func (r *reader) fits(word string) bool {
	if len(r.rest) == 0 {
		return false
	}
	next := r.rest[0]
	switch word {
	case "N", "V":
		return next.Kind == api.TokNumber
	}
	return next.Kind == api.TokWord && (isCapital(word) || next.Text == word)
}

// isCapital reports whether a word of a form stands for an atom and not for itself.
func isCapital(word string) bool { return word == strings.ToUpper(word) }
