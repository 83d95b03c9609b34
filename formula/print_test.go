package formula

import (
	"math/rand"
	"reflect"
	"strconv"
	"strings"
	"testing"

	"salchow/api"
)

// levels and places are the levels of operations and what their places require.
var (
	levels = map[int]int{api.ExprConst: 4, api.ExprVar: 4, api.ExprNeg: 3, api.ExprAdd: 1, api.ExprSub: 1, api.ExprMul: 2, api.ExprDiv: 2, api.ExprMin: 4, api.ExprMax: 4}
	places = map[int][]int{api.ExprConst: nil, api.ExprVar: nil, api.ExprNeg: {3}, api.ExprAdd: {1, 2}, api.ExprSub: {1, 2}, api.ExprMul: {2, 3}, api.ExprDiv: {2, 3}, api.ExprMin: {0, 0}, api.ExprMax: {0, 0}}
)

// textOf returns the text of a formula, by the definition.
func textOf(x api.Expr) string {
	var kids []string
	for i, kid := range x.Kids {
		text := textOf(kid)
		if levels[kid.Op] < places[x.Op][i] {
			text = "(" + text + ")"
		}
		kids = append(kids, text)
	}
	switch x.Op {
	case api.ExprConst:
		text := strconv.FormatInt(x.N/1000, 10) + "." + strings.Repeat("0", 3-len(strconv.FormatInt(x.N%1000, 10))) + strconv.FormatInt(x.N%1000, 10)
		return strings.TrimSuffix(strings.TrimRight(text, "0"), ".")
	case api.ExprVar:
		return x.Name
	case api.ExprNeg:
		return "-" + kids[0]
	case api.ExprMin:
		return "min(" + strings.Join(kids, ", ") + ")"
	case api.ExprMax:
		return "max(" + strings.Join(kids, ", ") + ")"
	}
	return strings.Join(kids, map[int]string{api.ExprAdd: " + ", api.ExprSub: " - ", api.ExprMul: " * ", api.ExprDiv: " / "}[x.Op])
}

// measure returns the least number of atoms of a formula and its nesting.
func measure(x api.Expr) (atoms, nesting int) {
	atoms = map[int]int{api.ExprMin: 4, api.ExprMax: 4}[x.Op]
	if atoms == 0 {
		atoms = 1
	}
	for i, kid := range x.Kids {
		a, n := measure(kid)
		if levels[kid.Op] < places[x.Op][i] {
			a, n = a+2, n+1
		}
		atoms, nesting = atoms+a, max(nesting, n)
	}
	if x.Op == api.ExprNeg || x.Op == api.ExprMin || x.Op == api.ExprMax {
		nesting++
	}
	return atoms, nesting
}

// checkPrint checks the results of Valid and Print for a tree that grow could return.
func checkPrint(t *testing.T, x api.Expr) bool {
	t.Helper()
	atoms, nesting := measure(x)
	want := atoms <= 256 && nesting <= 32
	before := copied(x)
	text, e := Print(x)
	switch {
	case Valid(x) != want:
		t.Errorf("Valid(%s) is not %v", textOf(x), want)
	case !want && (text != "" || e != api.ErrArgument):
		t.Errorf("Print of %s: %q, %d", textOf(x), text, e)
	case want && (text != textOf(x) || e != api.OK):
		t.Errorf("Print of %s: %q, %d", textOf(x), text, e)
	case want:
		if y := formulaOf(t, text); !Equal(x, y) {
			t.Errorf("%q is read as %v; want %v", text, y, x)
		} else if again, e := Print(y); again != text || e != api.OK {
			t.Errorf("Print of what %q is read as: %q, %d", text, again, e)
		}
	}
	if !reflect.DeepEqual(copied(x), before) {
		t.Errorf("%v has changed", x)
	}
	return want
}

func TestPrintOfExamples(t *testing.T) {
	for text, want := range map[string]string{
		"(a - b) - c": "a - b - c", "a - (b - c)": "a - (b - c)", "-(a + 1.50)": "-(a + 1.5)", "difficulty + 10 - artistry / 2": "difficulty + 10 - artistry / 2",
		"a+(b+c)": "a + (b + c)", "(a+b)+c": "a + b + c", "a+(b*c)": "a + b * c", "(a*b)+c": "a * b + c", "(a+b)*c": "(a + b) * c", "a*(b+c)": "a * (b + c)", "a*(b*c)": "a * (b * c)", "(a*b)*c": "a * b * c", "(a/2)*b": "a / 2 * b", "a*(b/2)": "a * (b / 2)", "(a*b)/2": "a * b / 2", "(a/2)/3": "a / 2 / 3", "(a-b)/2": "(a - b) / 2",
		"- - a": "--a", "-(-a)": "--a", "(-a)*b": "-a * b", "-(a*b)": "-(a * b)", "a*(-b)": "a * -b", "a-(-b)": "a - -b", "a + - - b": "a + --b", "-(a/2)": "-(a / 2)", "(-a)/2": "-a / 2", "-(5)": "-5", "-min(a,b)": "-min(a, b)", "(-a)-b": "-a - b",
		"min((a+b),(c-d))*2": "min(a + b, c - d) * 2", "max(0, min((a), 0.005))": "max(0, min(a, 0.005))", "(min(a,b))": "min(a, b)", "max(-a, (b*c))": "max(-a, b * c)", "((((a))))": "a", "max ( a , b ) - max(b,a)": "max(a, b) - max(b, a)",
		"0": "0", "0.0": "0", "0.001": "0.001", "0.010": "0.01", "0.100": "0.1", "1.000": "1", "10": "10", "100.5": "100.5", "1000000": "1000000", "999999.999": "999999.999", "1.05": "1.05",
	} {
		x := formulaOf(t, text)
		if got, e := Print(x); got != want || e != api.OK || !Valid(x) || !checkPrint(t, x) {
			t.Errorf("Print of %q: %q, %d; want %q", text, got, e, want)
		}
	}
}

func TestPrintOfRandomTrees(t *testing.T) {
	random := rand.New(rand.NewSource(42))
	formulas := 0
	for range 8000 {
		x := grow(random, random.Intn(12))
		if checkPrint(t, x) {
			formulas++
		}
		if Valid(moved(x)) != Valid(x) {
			t.Errorf("Valid(%v) depends on offsets", x)
		}
	}
	if formulas < 4000 || formulas > 7900 {
		t.Errorf("%d formulas", formulas)
	}
}

func TestWhatParseReturnsIsValid(t *testing.T) {
	random := rand.New(rand.NewSource(43))
	for range 20000 {
		var shape strings.Builder
		for range 1 + random.Intn(12) {
			shape.WriteString([]string{"a", "1", "+", "-", "*", "/3", "((", ")", ",", "m(", "x(", "(a"}[random.Intn(12)])
		}
		if x, f := Parse(atomsOfShape(shape.String())); f == (api.Fault{}) && !checkPrint(t, x) {
			t.Errorf("%s is not valid", shape.String())
		}
	}
}

func TestTreesAtTheLimits(t *testing.T) {
	a := variable("a")
	for name, c := range map[string]struct {
		wrap func(x api.Expr) api.Expr
		most int
	}{
		"sums on the left":         {func(x api.Expr) api.Expr { return add(x, a) }, 127},
		"products on the left":     {func(x api.Expr) api.Expr { return mul(x, a) }, 127},
		"quotients":                {func(x api.Expr) api.Expr { return div(x, number(1)) }, 127},
		"negations":                {neg, 32},
		"sums on the right":        {func(x api.Expr) api.Expr { return sub(a, x) }, 33},
		"products on the right":    {func(x api.Expr) api.Expr { return mul(a, x) }, 33},
		"minima on the left":       {func(x api.Expr) api.Expr { return least(x, a) }, 32},
		"maxima on the right":      {func(x api.Expr) api.Expr { return most(a, x) }, 32},
		"negations of sums":        {func(x api.Expr) api.Expr { return neg(add(x, a)) }, 16},
		"sums with negations":      {func(x api.Expr) api.Expr { return add(x, neg(a)) }, 85},
		"products of sums":         {func(x api.Expr) api.Expr { return mul(add(x, a), a) }, 32},
		"minima of products":       {func(x api.Expr) api.Expr { return mul(least(x, a), a) }, 32},
		"minima beside each other": {func(x api.Expr) api.Expr { return add(x, least(a, a)) }, 36},
	} {
		for times := range 140 {
			x := repeated(times, c.wrap, a)
			if valid := checkPrint(t, x); valid != (times <= c.most) {
				t.Errorf("%s: %d of them are valid: %v", name, times, valid)
			}
		}
	}
	// 256 atoms, and one more.
	for _, x := range []api.Expr{neg(chain(128)), add(neg(a), chain(127)), add(chain(127), neg(a))} {
		atoms, _ := measure(x)
		if checkPrint(t, x) != (atoms <= 256) {
			t.Errorf("%d atoms", atoms)
		}
	}
	if x := add(chain(127), neg(a)); !Valid(x) || Valid(add(chain(127), neg(neg(a)))) || !Valid(chain(128)) || Valid(add(chain(128), a)) {
		t.Error("256 atoms are not the limit")
	}
}

func TestTreesThatAreNoFormulas(t *testing.T) {
	for _, x := range withOdd() {
		before := copied(x)
		if text, e := Print(x); Valid(x) || text != "" || e != api.ErrArgument || !reflect.DeepEqual(copied(x), before) {
			t.Errorf("%v: %v, %q, %d", x, Valid(x), text, e)
		}
	}
	for _, x := range []api.Expr{{Op: api.ExprConst, Kids: []api.Expr{}}, {Op: api.ExprVar, Name: "a", Kids: []api.Expr{}, At: -5}, number(0), number(api.MaxNumber), variable("minimum"), variable("abcdefghijklmnop"), variable("max_"), div(variable("a"), number(1)), div(number(0), number(api.MaxNumber))} {
		if !Valid(x) || !checkPrint(t, x) {
			t.Errorf("%v is not valid", x)
		}
	}
}

func TestWideAndRepeatedTrees(t *testing.T) {
	// A tree of 2^60 nodes that share their memory is refused at once.
	shared := repeated(60, func(x api.Expr) api.Expr { return add(x, x) }, variable("a"))
	if text, e := Print(shared); Valid(shared) || text != "" || e != api.ErrArgument {
		t.Errorf("%q, %d", text, e)
	}
	wide := api.Expr{Op: api.ExprAdd, Kids: make([]api.Expr, 1<<20)}
	if _, e := Print(wide); Valid(wide) || e != api.ErrArgument || Size(wide) != 1<<20+1 {
		t.Error("a wide tree")
	}
}
