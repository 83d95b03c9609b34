package formula

import (
	"math/rand"
	"reflect"
	"regexp"
	"slices"
	"strings"
	"testing"

	"salchow/api"
)

// fault returns a fault.
func fault(code api.Errno, at int) api.Fault { return api.Fault{Code: code, At: at} }

// atomOf returns the atom that a byte of a shape stands for: the names a and b, A for a word that is no name, the numbers 0 to 9, m and x for min and max, and signs; s, v and w stand for the strings a, min and (, and e for the end.
func atomOf(c byte) api.Token {
	switch {
	case c == 'm':
		return word("min")
	case c == 'x':
		return word("max")
	case c == 's':
		return api.Token{Kind: api.TokString, Text: "a"}
	case c == 'v':
		return api.Token{Kind: api.TokString, Text: "min"}
	case c == 'w':
		return api.Token{Kind: api.TokString, Text: "("}
	case c == 'e':
		return api.Token{Kind: api.TokEnd}
	case c >= '0' && c <= '9':
		return api.Token{Kind: api.TokNumber, N: int64(c-'0') * 1000}
	case c >= 'a' && c <= 'z' || c == 'A':
		return word(string(c))
	}
	return sign(string(c))
}

// atomsOfShape returns the atoms of a shape, with different offsets that do not increase.
func atomsOfShape(shape string) []api.Token {
	var atoms []api.Token
	for i := range len(shape) {
		t := atomOf(shape[i])
		t.At = 50 - 7*i
		atoms = append(atoms, t)
	}
	return atoms
}

// reader reads a shape from left to right: what is open, and what the grammar has next.
type reader struct {
	open string // - for a unary sign, ( for a parenthesis, m and n for a minimum or maximum before and behind the comma
	want string // operand, operator, divisor, or parenthesis
}

// read returns the error of the next atom of a shape.
func (r *reader) read(c byte) api.Errno {
	opens := func(what string) api.Errno {
		if len(r.open) == MaxNesting {
			return api.ErrLimit
		}
		r.open += what
		return api.OK
	}
	top := ""
	if r.open != "" {
		top = r.open[len(r.open)-1:]
	}
	isNumber := c >= '0' && c <= '9'
	switch {
	case r.want == "operand" && c == '-':
		return opens("-")
	case r.want == "operand" && c == '(':
		return opens("(")
	case r.want == "operand" && (c == 'm' || c == 'x'):
		r.want = "parenthesis"
		return opens("m")
	case r.want == "operand" && c == 'A':
		return api.ErrName
	case r.want == "operand" && (isNumber || c == 'a' || c == 'b'):
		r.operandEnds()
	case r.want == "parenthesis" && c == '(':
		r.want = "operand"
	case r.want == "divisor" && c == '0':
		return api.ErrRange
	case r.want == "divisor" && isNumber:
		r.operandEnds()
	case r.want == "operator" && (c == '+' || c == '-' || c == '*'):
		r.want = "operand"
	case r.want == "operator" && c == '/':
		r.want = "divisor"
	case r.want == "operator" && c == ',' && top == "m":
		r.open, r.want = r.open[:len(r.open)-1]+"n", "operand"
	case r.want == "operator" && c == ')' && (top == "(" || top == "n"):
		r.open = r.open[:len(r.open)-1]
		r.operandEnds()
	default:
		return api.ErrSyntax
	}
	return api.OK
}

// operandEnds notes that an operand ends, and with it the unary signs in front of it.
func (r *reader) operandEnds() {
	r.open, r.want = strings.TrimRight(r.open, "-"), "operator"
}

// faultOf returns the code of the fault of a shape and the index of its atom.
func faultOf(shape string) (api.Errno, int) {
	if len(shape) > MaxAtoms {
		return api.ErrLimit, MaxAtoms
	}
	r := &reader{want: "operand"}
	for i := range len(shape) {
		if e := r.read(shape[i]); e != api.OK {
			return e, i
		}
	}
	if r.want != "operator" || r.open != "" {
		return api.ErrSyntax, len(shape) - 1
	}
	return api.OK, 0
}

// The forms of operands in shapes: those in parentheses that have been read are P.
const flat = `-*[abP\d](?:[-+*]-*[abP\d]|/[1-9])*`

var (
	inner = regexp.MustCompile(`[mx]\(` + flat + `,` + flat + `\)|\(` + flat + `\)`)
	whole = regexp.MustCompile(`^` + flat + `$`)
)

// accepted reports whether the grammar accepts a shape, by reducing what stands in parentheses.
func accepted(shape string) bool {
	for {
		shorter := inner.ReplaceAllString(shape, "P")
		if shorter == shape {
			return whole.MatchString(shape)
		}
		shape = shorter
	}
}

// split returns the index of the last one of the given signs that stands behind an operand and outside of parentheses, or -1.
func split(atoms []api.Token, signs string) int {
	found, depth := -1, 0
	for i, t := range atoms {
		switch {
		case t.Kind != api.TokSign:
		case t.Text == "(":
			depth++
		case t.Text == ")":
			depth--
		case depth == 0 && strings.Contains(signs, t.Text) && i > 0 && (atoms[i-1].Kind != api.TokSign || atoms[i-1].Text == ")"):
			found = i
		}
	}
	return found
}

// treeOf returns the tree of the atoms of a formula, by looking for the operation that is applied last.
func treeOf(atoms []api.Token) api.Expr {
	ops := map[string]int{"+": api.ExprAdd, "-": api.ExprSub, "*": api.ExprMul, "/": api.ExprDiv, "min": api.ExprMin, "max": api.ExprMax}
	pair := func(t api.Token, x, y []api.Token) api.Expr {
		return api.Expr{Op: ops[t.Text], Kids: []api.Expr{treeOf(x), treeOf(y)}, At: t.At}
	}
	for _, signs := range []string{"+-", "*/"} {
		if i := split(atoms, signs); i >= 0 {
			return pair(atoms[i], atoms[:i], atoms[i+1:])
		}
	}
	first, last := atoms[0], len(atoms)-1
	switch {
	case first.Kind == api.TokNumber:
		return api.Expr{Op: api.ExprConst, N: first.N, At: first.At}
	case first.Kind == api.TokSign && first.Text == "-":
		return api.Expr{Op: api.ExprNeg, Kids: []api.Expr{treeOf(atoms[1:])}, At: first.At}
	case first.Kind == api.TokSign:
		return treeOf(atoms[1:last])
	case last == 0:
		return api.Expr{Op: api.ExprVar, Name: first.Text, At: first.At}
	}
	atoms = atoms[2:last]
	comma := split(atoms, ",")
	return pair(first, atoms[:comma], atoms[comma+1:])
}

// checkParse checks the result of Parse for a shape that is not empty.
func checkParse(t *testing.T, shape string) {
	t.Helper()
	atoms := atomsOfShape(shape)
	before := slices.Clone(atoms)
	x, f := Parse(atoms)
	code, index := faultOf(shape)
	switch {
	case code != api.OK:
		if f != fault(code, atoms[index].At) || !reflect.DeepEqual(x, api.Expr{}) {
			t.Errorf("Parse of %s: %v, %v; want %d at the atom %d", shape, x, f, code, index)
		}
	case f != fault(api.OK, 0) || !reflect.DeepEqual(x, treeOf(atoms)):
		t.Errorf("Parse of %s: %v, %v; want %v", shape, x, f, treeOf(atoms))
	}
	if !slices.Equal(atoms, before) {
		t.Errorf("Parse of %s has changed the atoms", shape)
	}
}

// checkShapes checks all shapes over an alphabet that begin with a given one that has no fault but at its end, and have at most so many more atoms.
func checkShapes(t *testing.T, shape, alphabet string, more int) {
	for _, c := range alphabet {
		longer := shape + string(c)
		checkParse(t, longer)
		code, index := faultOf(longer)
		open := code == api.OK || code == api.ErrSyntax && index == len(shape) && isBeginning(longer)
		if (code == api.OK) != accepted(longer) {
			t.Errorf("the two readings of the grammar differ for %s", longer)
		}
		if !open {
			// What stands behind a fault does not matter.
			for _, rest := range []string{"a", "a)", "(a,a)", "A", "/0"} {
				checkParse(t, longer+rest)
			}
		} else if more > 1 {
			checkShapes(t, longer, alphabet, more-1)
		}
	}
}

// isBeginning reports whether no atom of a shape has a fault, although the end may have one.
func isBeginning(shape string) bool {
	r := &reader{want: "operand"}
	for i := range len(shape) {
		if r.read(shape[i]) != api.OK {
			return false
		}
	}
	return true
}

func TestAllShortFormulas(t *testing.T) {
	checkShapes(t, "", "aA01mx+-*/(),=svwe", 5)
	checkShapes(t, "", "a1m+-*/(),", 6)
	checkShapes(t, "m(a,", "a0m+-/(),", 5)
	checkShapes(t, "-(m(-a+", "a0m+-*/(),", 5)
}

func TestLongerFormulas(t *testing.T) {
	random := rand.New(rand.NewSource(41))
	pieces := []string{"a", "b", "1", "2", "+", "-", "*", "/3", "(", ")", ",", "m(", "x(", "+a", "-a", "*-b", ",a)", "a)", "(a", "--"}
	faulty := []string{"0", "A", "/", "m", "=", "/0", "+A", "-A", "/b", "*A", "(A", ")"}
	counts := map[api.Errno]int{}
	for range 100000 {
		var shape strings.Builder
		for range 1 + random.Intn(12) {
			piece := pieces[random.Intn(len(pieces))]
			for try := 0; try < 5 && !isBeginning(shape.String()+piece); try++ {
				piece = pieces[random.Intn(len(pieces))]
			}
			shape.WriteString(piece)
		}
		if random.Intn(2) == 0 {
			shape.WriteString(faulty[random.Intn(len(faulty))])
		}
		checkParse(t, shape.String())
		code, _ := faultOf(shape.String())
		counts[code]++
		if (code == api.OK) != accepted(shape.String()) {
			t.Errorf("the two readings of the grammar differ for %s", shape.String())
		}
	}
	if counts[api.OK] < 1000 || counts[api.ErrSyntax] < 1000 || counts[api.ErrName] < 1000 || counts[api.ErrRange] < 1000 {
		t.Errorf("the formulas are not mixed: %v", counts)
	}
}

func TestNesting(t *testing.T) {
	// The ends of openings have the reverse order.
	ends := map[string]string{"(": ")", "-": "", "m(": ",a)", "x(a,": ")", "-(": ")", "m(-": ",a)"}
	for begin, end := range ends {
		for times := 1; times <= 40; times++ {
			all := strings.Repeat(begin, times) + "a" + strings.Repeat(end, times)
			checkParse(t, all)
			checkParse(t, "b+"+all+"*"+all)
			checkParse(t, "m("+all+","+all+")")
			checkParse(t, "a"+strings.Repeat("+"+begin+"a"+end, times))
		}
	}
	thirty := strings.Repeat("(", 30)
	for shape, want := range map[string]api.Fault{
		strings.Repeat("(", 32) + "a" + strings.Repeat(")", 32):            {},
		strings.Repeat("-", 32) + "a":                                      {},
		strings.Repeat("m(", 32) + "a" + strings.Repeat(",b)", 32):         {},
		strings.Repeat("x(a,", 32) + "a" + strings.Repeat(")", 32):         {},
		strings.Repeat("(", 31) + "-a-a---a" + strings.Repeat(")", 31):     {Code: api.ErrLimit, At: 50 - 7*37},
		strings.Repeat("(", 31) + "-a-a--m(" + strings.Repeat(")", 31):     {Code: api.ErrLimit, At: 50 - 7*37},
		strings.Repeat("(", 31) + "-a*-a+(a)--a" + strings.Repeat(")", 31): {},
		strings.Repeat("(", 33):                                            {Code: api.ErrLimit, At: 50 - 7*32},
		strings.Repeat("-", 33):                                            {Code: api.ErrLimit, At: 50 - 7*32},
		strings.Repeat("m(", 33):                                           {Code: api.ErrLimit, At: 50 - 7*64},
		thirty + "-(-":                                                     {Code: api.ErrLimit, At: 50 - 7*32},
		thirty + "m(-m":                                                    {Code: api.ErrLimit, At: 50 - 7*33},
		// The grammar is asked first.
		thirty + "((a(":    {Code: api.ErrSyntax, At: 50 - 7*33},
		thirty + "((am(":   {Code: api.ErrSyntax, At: 50 - 7*33},
		thirty + "((a/-1":  {Code: api.ErrSyntax, At: 50 - 7*34},
		thirty + "((a/(1)": {Code: api.ErrSyntax, At: 50 - 7*34},
		thirty + "(m-":     {Code: api.ErrSyntax, At: 50 - 7*32},
		thirty + "(mm":     {Code: api.ErrSyntax, At: 50 - 7*32},
		thirty + "((a-b-(": {Code: api.ErrLimit, At: 50 - 7*36},
	} {
		if _, f := Parse(atomsOfShape(shape)); f != want {
			t.Errorf("Parse of %s: %v; want %v", shape, f, want)
		}
		checkParse(t, shape)
	}
}

func TestNumberOfAtoms(t *testing.T) {
	tooMany := fault(api.ErrLimit, 50-7*MaxAtoms)
	for length, want := range map[int]api.Fault{255: {}, 256: fault(api.ErrSyntax, 50-7*255), 257: tooMany, 258: tooMany, 1000: tooMany} {
		shape := strings.Repeat("a+", length)[:length]
		if x, f := Parse(atomsOfShape(shape)); f != want || (Size(x) == length) != (want == api.Fault{}) {
			t.Errorf("%d atoms: %v; want %v", length, f, want)
		}
		// The number is looked at before all atoms.
		if _, f := Parse(atomsOfShape("=" + shape[1:])); want == tooMany && f != tooMany || want != tooMany && f != fault(api.ErrSyntax, 50) {
			t.Errorf("%d atoms, the first one with a fault: %v", length, f)
		}
	}
	if x, f := Parse(atomsOfShape("-" + strings.Repeat("a+", 127) + "a")); f != (api.Fault{}) || Size(x) != 256 {
		t.Errorf("256 atoms: %v", f)
	}
}

func TestFaultsOfExamples(t *testing.T) {
	for text, want := range map[string]api.Fault{
		"a / 0": fault(api.ErrRange, 4), "a / b": fault(api.ErrSyntax, 4), "a +": fault(api.ErrSyntax, 2), "Abc": fault(api.ErrName, 0), "a Abc": fault(api.ErrSyntax, 2),
		"": fault(api.ErrSyntax, 0), "a + 3Lz": fault(api.ErrName, 4), "a_234567890123456 - b": fault(api.ErrName, 0), "a / 0.000": fault(api.ErrRange, 4), "a / 0.001": {}, "0 / 1": {}, "a / 3Lz": fault(api.ErrSyntax, 4), "min": fault(api.ErrSyntax, 0), "max + 1": fault(api.ErrSyntax, 4), "min (a, max)": fault(api.ErrSyntax, 11), "minx + maxi(": fault(api.ErrSyntax, 11), "a \"b\"": fault(api.ErrSyntax, 2), "min(a, b, c)": fault(api.ErrSyntax, 8), "(a, b)": fault(api.ErrSyntax, 2), "()": fault(api.ErrSyntax, 1), "a = b": fault(api.ErrSyntax, 2), "a ; b": fault(api.ErrSyntax, 2), "{ a }": fault(api.ErrSyntax, 0), "3.5 a": fault(api.ErrSyntax, 4), "+ a": fault(api.ErrSyntax, 0), "min(a b)": fault(api.ErrSyntax, 6), "Min(a, b)": fault(api.ErrName, 0), "(a / 0": fault(api.ErrRange, 5),
	} {
		x, f := Parse(atomsOfText(t, text))
		if f != want || want != (api.Fault{}) && !reflect.DeepEqual(x, api.Expr{}) {
			t.Errorf("Parse of %q: %v, %v; want %v", text, x, f, want)
		}
	}
	if x, f := Parse(nil); f != fault(api.ErrSyntax, 0) || !reflect.DeepEqual(x, api.Expr{}) {
		t.Errorf("Parse of no atoms: %v, %v", x, f)
	}
	want := api.Expr{Op: api.ExprSub, At: 16, Kids: []api.Expr{
		{Op: api.ExprAdd, At: 11, Kids: []api.Expr{{Op: api.ExprVar, Name: "difficulty"}, {Op: api.ExprConst, N: 10000, At: 13}}},
		{Op: api.ExprDiv, At: 27, Kids: []api.Expr{{Op: api.ExprVar, Name: "artistry", At: 18}, {Op: api.ExprConst, N: 2000, At: 29}}},
	}}
	if x := formulaOf(t, "difficulty + 10 - artistry / 2"); !reflect.DeepEqual(x, want) || Size(x) != 7 {
		t.Errorf("%v; want %v", x, want)
	}
}

func TestStrangeAtoms(t *testing.T) {
	// Atoms that no source has are read by their kind and their text, or number.
	for _, c := range []struct {
		atom api.Token
		want api.Expr
		code api.Errno
	}{
		{api.Token{}, api.Expr{}, api.ErrSyntax}, {api.Token{Kind: 6, Text: "a"}, api.Expr{}, api.ErrSyntax}, {api.Token{Kind: -1, Text: "a", N: 5}, api.Expr{}, api.ErrSyntax}, {api.Token{Kind: api.TokEnd}, api.Expr{}, api.ErrSyntax},
		{sign(""), api.Expr{}, api.ErrSyntax}, {sign("+-"), api.Expr{}, api.ErrSyntax}, {sign("a"), api.Expr{}, api.ErrSyntax}, {sign("min"), api.Expr{}, api.ErrSyntax},
		{word(""), api.Expr{}, api.ErrName}, {word("a b"), api.Expr{}, api.ErrName}, {word("+"), api.Expr{}, api.ErrName}, {word("("), api.Expr{}, api.ErrName}, {word("7"), api.Expr{}, api.ErrName},
		{api.Token{Kind: api.TokNumber, N: -5}, number(-5), api.OK}, {api.Token{Kind: api.TokNumber, N: 1 << 62, Text: "x"}, number(1 << 62), api.OK}, {api.Token{Kind: api.TokNumber, N: 5, Text: "-"}, number(5), api.OK}, {api.Token{Kind: api.TokNumber, N: 5, Text: "min"}, number(5), api.OK}, {api.Token{Kind: api.TokWord, Text: "a", N: 7}, variable("a"), api.OK},
	} {
		c.atom.At = -7
		for _, before := range []string{"", "-", "(", "a+", "m(a,"} {
			if c.code == api.OK && before != "" {
				continue
			}
			x, f := Parse(append(atomsOfShape(before), c.atom))
			if f != fault(c.code, -7) && c.code != api.OK || c.code == api.OK && (f != (api.Fault{}) || !Equal(x, c.want) || x.At != -7) {
				t.Errorf("Parse of %s and %v: %v, %v", before, c.atom, x, f)
			}
		}
		// Behind an operand the grammar has none of them.
		if _, f := Parse(append(atomsOfShape("a"), c.atom)); f != fault(api.ErrSyntax, -7) {
			t.Errorf("Parse of a and %v: %v", c.atom, f)
		}
	}
	if x, f := Parse([]api.Token{word("a"), sign("/"), {Kind: api.TokNumber, N: -2}}); f != (api.Fault{}) || !Equal(x, div(variable("a"), number(-2))) || Valid(x) {
		t.Errorf("a quotient by a negative number: %v, %v", x, f)
	}
	if f := mustFail([]api.Token{word("a"), {Kind: api.TokWord, Text: "/", At: 9}}); f != fault(api.ErrSyntax, 9) {
		t.Errorf("a word that looks like a sign: %v", f)
	}
}

// mustFail returns the fault of atoms.
func mustFail(atoms []api.Token) api.Fault {
	_, f := Parse(atoms)
	return f
}

func TestTreesShareNoMemory(t *testing.T) {
	atoms := atomsOfText(t, "a + b * min(c, -1) - a")
	x, _ := Parse(atoms)
	y, _ := Parse(atoms)
	want := copied(x)
	_ = append(x.Kids[0].Kids[:1], api.Expr{})
	_ = append(x.Kids[:0], api.Expr{})
	atoms[0].Text, atoms[2].Kind = "z", 0
	if !reflect.DeepEqual(copied(y), want) {
		t.Errorf("%v; want %v", y, want)
	}
}
