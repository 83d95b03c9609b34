package formula

import (
	"slices"
	"strings"

	"salchow/api"
	"salchow/lexer"
)

// The levels of parts: one of a lesser level needs parentheses where a greater one is required.
const (
	levelAny     = 0
	levelSum     = 1
	levelProduct = 2
	levelUnary   = 3
	levelPrimary = 4
)

// levelOf returns the level of an operation.
func levelOf(op int) int {
	switch op {
	case api.ExprAdd, api.ExprSub:
		return levelSum
	case api.ExprMul, api.ExprDiv:
		return levelProduct
	case api.ExprNeg:
		return levelUnary
	}
	return levelPrimary
}

// Print returns the canonical text of a formula.
func Print(x api.Expr) (string, api.Errno) {
	atoms, ok := atomsOf(x)
	if !ok {
		return "", api.ErrArgument
	}
	var text strings.Builder
	for i, t := range atoms {
		spelling, _ := lexer.Spell(t)
		switch {
		case i > 0 && isOperator(t) && endsOperand(atoms[i-1]):
			text.WriteString(" " + spelling + " ")
		case isSign(t, ","):
			text.WriteString(", ")
		default:
			text.WriteString(spelling)
		}
	}
	return text.String(), api.OK
}

// atomsOf returns the atoms of a formula, with as few parentheses as possible, and whether x is one.
func atomsOf(x api.Expr) ([]api.Token, bool) {
	// If Parse returns the tree for any atoms, it does so for these: there are none with fewer atoms or less nesting.
	atoms := appendAtoms(nil, x, levelAny)
	if slices.ContainsFunc(atoms, func(t api.Token) bool { return !lexer.Valid(t) }) {
		return nil, false
	}
	y, fault := Parse(atoms)
	if fault.Code != api.OK || !Equal(x, y) {
		return nil, false
	}
	return atoms, true
}

// isOperator reports whether a token is the sign of an operation.
func isOperator(t api.Token) bool {
	return isSign(t, "+") || isSign(t, "-") || isSign(t, "*") || isSign(t, "/")
}

// endsOperand reports whether an operand ends with an atom of a formula that stands before the sign of an operation.
func endsOperand(t api.Token) bool {
	return t.Kind != api.TokSign || t.Text == ")"
}

// isSign reports whether a token is a sign.
func isSign(t api.Token, text string) bool {
	return t.Kind == api.TokSign && t.Text == text
}

// sign returns the token of a sign.
func sign(text string) api.Token { return api.Token{Kind: api.TokSign, Text: text} }

// word returns the token of a word.
func word(text string) api.Token { return api.Token{Kind: api.TokWord, Text: text} }

// appendAtoms appends the atoms of a tree that stands at a place with a required level. Of what Parse returns for no atoms it appends any atoms, and of a tree with more than MaxAtoms not all of them, but more than MaxAtoms.
func appendAtoms(atoms []api.Token, x api.Expr, required int) []api.Token {
	if len(atoms) > MaxAtoms {
		return atoms
	}
	level := levelOf(x.Op)
	if level < required {
		atoms = append(atoms, sign("("))
		atoms = appendAtoms(atoms, x, levelAny)
		return append(atoms, sign(")"))
	}
	switch {
	case x.Op == api.ExprConst:
		return append(atoms, api.Token{Kind: api.TokNumber, N: x.N})
	case x.Op == api.ExprVar:
		return append(atoms, word(x.Name))
	case x.Op == api.ExprNeg && len(x.Kids) == 1:
		return appendAtoms(append(atoms, sign("-")), x.Kids[0], level)
	case (x.Op == api.ExprMin || x.Op == api.ExprMax) && len(x.Kids) == 2:
		atoms = append(atoms, word(spellings[x.Op]), sign("("))
		atoms = appendAtoms(atoms, x.Kids[0], levelAny)
		atoms = appendAtoms(append(atoms, sign(",")), x.Kids[1], levelAny)
		return append(atoms, sign(")"))
	case level < levelUnary && len(x.Kids) == 2:
		atoms = appendAtoms(atoms, x.Kids[0], level)
		return appendAtoms(append(atoms, sign(spellings[x.Op])), x.Kids[1], level+1)
	}
	return atoms
}
