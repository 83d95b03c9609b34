package parser

import (
	"slices"

	"salchow/api"
	"salchow/lexer"
)

// Same reports whether two lists of entries are equal, apart from offsets.
func Same(a, b []api.Clause) bool {
	return slices.EqualFunc(a, b, func(x, y api.Clause) bool {
		return x.Word == y.Word && x.Block == y.Block && slices.EqualFunc(x.Atoms, y.Atoms, sameAtom) && Same(x.Kids, y.Kids)
	})
}

// sameAtom reports whether two tokens are equal, apart from offsets.
func sameAtom(x, y api.Token) bool {
	x.At, y.At = 0, 0
	return x == y
}

// Count returns the number of entries, those in blocks included.
func Count(list []api.Clause) int {
	count := len(list)
	for _, c := range list {
		count += Count(c.Kids)
	}
	return count
}

// Depth returns how many blocks are within each other.
func Depth(list []api.Clause) int {
	depth := 0
	for _, c := range list {
		if c.Block {
			depth = max(depth, 1+Depth(c.Kids))
		}
	}
	return depth
}

// Check reports whether a list could be returned by Parse, whatever its offsets: OK, or the first error.
func Check(list []api.Clause) api.Errno {
	if !wellFormed(list) {
		return api.ErrSyntax
	}
	if Depth(list) > api.MaxBlocks {
		return api.ErrLimit
	}
	return api.OK
}

// wellFormed reports whether a list is possible, but perhaps too deep.
func wellFormed(list []api.Clause) bool {
	strange := func(atom api.Token) bool { return !lexer.Valid(atom) || !isAtom(atom) }
	return !slices.ContainsFunc(list, func(c api.Clause) bool {
		switch {
		case !lexer.Valid(api.Token{Kind: api.TokWord, Text: c.Word}):
			return true
		case slices.ContainsFunc(c.Atoms, strange):
			return true
		case !c.Block:
			return len(c.Kids) > 0
		}
		return !wellFormed(c.Kids)
	})
}

// Find returns the entries with a word, in order.
func Find(list []api.Clause, word string) []api.Clause {
	var found []api.Clause
	for _, c := range list {
		if c.Word == word {
			found = append(found, clone(c))
		}
	}
	return found
}

// clone returns a copy of an entry that shares no memory with it.
func clone(c api.Clause) api.Clause {
	c.Atoms = slices.Clone(c.Atoms)
	kids := c.Kids
	c.Kids = nil
	for _, kid := range kids {
		c.Kids = append(c.Kids, clone(kid))
	}
	return c
}
