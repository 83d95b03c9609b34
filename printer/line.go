package printer

import (
	"iter"
	"strings"

	"salchow/api"
	"salchow/lexer"
)

// lines returns the lines of the canonical source of a possible list, each with the number of blocks around it and without its indentation.
func lines(list []api.Clause) iter.Seq2[int, string] {
	return func(yield func(depth int, line string) bool) {
		yieldLines(list, 0, yield)
	}
}

// yieldLines gives the lines of entries within so many blocks to yield, and reports whether it wants more.
func yieldLines(list []api.Clause, depth int, yield func(depth int, line string) bool) bool {
	for _, c := range list {
		if !yield(depth, firstLine(c)) {
			return false
		}
		if c.Block && !(yieldLines(c.Kids, depth+1, yield) && yield(depth, "}")) {
			return false
		}
	}
	return true
}

// firstLine returns the first line of a possible entry.
func firstLine(c api.Clause) string {
	var line strings.Builder
	line.WriteString(c.Word)
	for i, atom := range c.Atoms {
		if i == 0 || !adjacent(c.Atoms[i-1], atom) {
			line.WriteString(" ")
		}
		spelling, _ := lexer.Spell(atom)
		line.WriteString(spelling)
	}
	if c.Block {
		line.WriteString(" {")
	} else {
		line.WriteString(";")
	}
	return line.String()
}

// adjacent reports whether no blank stands between two atoms.
func adjacent(before, atom api.Token) bool {
	return isSign(before, "(") || isSign(atom, ")") || isSign(atom, ",")
}

// isSign reports whether an atom is a sign.
func isSign(atom api.Token, text string) bool {
	return atom.Kind == api.TokSign && atom.Text == text
}
