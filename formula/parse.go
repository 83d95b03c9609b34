package formula

import (
	"slices"

	"salchow/api"
	"salchow/ident"
)

// Parse returns the formula of the atoms of a clause, or the first fault.
func Parse(atoms []api.Token) (x api.Expr, fault api.Fault) {
	if len(atoms) > MaxAtoms {
		return api.Expr{}, api.Fault{Code: api.ErrLimit, At: atoms[MaxAtoms].At}
	}
	defer func() {
		if thrown, ok := recover().(api.Fault); ok {
			x, fault = api.Expr{}, thrown
		}
	}()
	p := &parser{atoms: atoms}
	x = p.sum()
	if p.place < len(atoms) {
		panic(p.fault(api.ErrSyntax))
	}
	return x, api.Fault{}
}

// parser has atoms and the place of the one that is read next. Its methods throw the first fault by a panic.
type parser struct {
	atoms []api.Token
	place int
	open  int // the number of unary signs, parentheses, and min and max that are open
}

// fault returns a fault at the next atom, or at the last one if there is no next one.
func (p *parser) fault(code api.Errno) api.Fault {
	f := api.Fault{Code: code}
	if len(p.atoms) > 0 {
		f.At = p.atoms[min(p.place, len(p.atoms)-1)].At
	}
	return f
}

// next returns the next atom, or the end.
func (p *parser) next() api.Token {
	if p.place == len(p.atoms) {
		return api.Token{Kind: api.TokEnd}
	}
	return p.atoms[p.place]
}

// take returns the next atom and goes on behind it.
func (p *parser) take() api.Token {
	t := p.next()
	p.place++
	return t
}

// sees reports whether the next atom is one of the given signs.
func (p *parser) sees(signs ...string) bool {
	t := p.next()
	return t.Kind == api.TokSign && slices.Contains(signs, t.Text)
}

// expect goes on behind a sign that has to stand there.
func (p *parser) expect(sign string) {
	if !p.sees(sign) {
		panic(p.fault(api.ErrSyntax))
	}
	p.place++
}

// enter takes the next atom, which opens a part.
func (p *parser) enter() api.Token {
	if p.open == MaxNesting {
		panic(p.fault(api.ErrLimit))
	}
	p.open++
	return p.take()
}

// sum reads a sum of products.
func (p *parser) sum() api.Expr {
	x := p.product()
	for p.sees("+", "-") {
		operator := p.take()
		x = pair(operator, x, p.product())
	}
	return x
}

// product reads a product of unary parts, with quotients by numbers.
func (p *parser) product() api.Expr {
	x := p.unary()
	for p.sees("*", "/") {
		operator := p.take()
		if operator.Text == "*" {
			x = pair(operator, x, p.unary())
		} else {
			x = pair(operator, x, p.divisor())
		}
	}
	return x
}

// divisor reads the number of a quotient.
func (p *parser) divisor() api.Expr {
	switch t := p.next(); {
	case t.Kind != api.TokNumber:
		panic(p.fault(api.ErrSyntax))
	case t.N == 0:
		panic(p.fault(api.ErrRange))
	}
	return p.number()
}

// unary reads a primary part behind any number of signs.
func (p *parser) unary() api.Expr {
	if !p.sees("-") {
		return p.primary()
	}
	minus := p.enter()
	kid := p.unary()
	p.open--
	return api.Expr{Op: api.ExprNeg, Kids: []api.Expr{kid}, At: minus.At}
}

// primary reads a number, a name, a minimum, a maximum or a part in parentheses.
func (p *parser) primary() api.Expr {
	switch t := p.next(); {
	case t.Kind == api.TokNumber:
		return p.number()
	case t.Kind == api.TokWord && (t.Text == wordMin || t.Text == wordMax):
		return p.extreme()
	case t.Kind == api.TokWord:
		return p.variable()
	case p.sees("("):
		return p.group()
	}
	panic(p.fault(api.ErrSyntax))
}

// number takes a number.
func (p *parser) number() api.Expr {
	t := p.take()
	return api.Expr{Op: api.ExprConst, N: t.N, At: t.At}
}

// variable takes a word that is the name of a variable.
func (p *parser) variable() api.Expr {
	if !ident.Name(p.next().Text) {
		panic(p.fault(api.ErrName))
	}
	t := p.take()
	return api.Expr{Op: api.ExprVar, Name: t.Text, At: t.At}
}

// extreme reads a minimum or a maximum.
func (p *parser) extreme() api.Expr {
	name := p.enter()
	p.expect("(")
	first := p.sum()
	p.expect(",")
	second := p.sum()
	p.expect(")")
	p.open--
	return pair(name, first, second)
}

// group reads a part in parentheses, which leave no trace.
func (p *parser) group() api.Expr {
	p.enter()
	x := p.sum()
	p.expect(")")
	p.open--
	return x
}

// pair returns the operation of two operands that a sign or a word stands for.
func pair(t api.Token, first, second api.Expr) api.Expr {
	op := api.ExprAdd
	for spellings[op] != t.Text {
		op++
	}
	return api.Expr{Op: op, Kids: []api.Expr{first, second}, At: t.At}
}
