package formula

import (
	"math/rand"
	"reflect"
	"slices"
	"testing"

	"salchow/api"
	"salchow/lexer"
)

// The following functions return trees without offsets.
func number(n int64) api.Expr      { return api.Expr{Op: api.ExprConst, N: n} }
func variable(s string) api.Expr   { return api.Expr{Op: api.ExprVar, Name: s} }
func neg(x api.Expr) api.Expr      { return api.Expr{Op: api.ExprNeg, Kids: []api.Expr{x}} }
func add(x, y api.Expr) api.Expr   { return api.Expr{Op: api.ExprAdd, Kids: []api.Expr{x, y}} }
func sub(x, y api.Expr) api.Expr   { return api.Expr{Op: api.ExprSub, Kids: []api.Expr{x, y}} }
func mul(x, y api.Expr) api.Expr   { return api.Expr{Op: api.ExprMul, Kids: []api.Expr{x, y}} }
func div(x, y api.Expr) api.Expr   { return api.Expr{Op: api.ExprDiv, Kids: []api.Expr{x, y}} }
func least(x, y api.Expr) api.Expr { return api.Expr{Op: api.ExprMin, Kids: []api.Expr{x, y}} }
func most(x, y api.Expr) api.Expr  { return api.Expr{Op: api.ExprMax, Kids: []api.Expr{x, y}} }

// repeated returns what so many applications of a function make of a tree.
func repeated(times int, wrap func(x api.Expr) api.Expr, x api.Expr) api.Expr {
	for range times {
		x = wrap(x)
	}
	return x
}

// chain returns a sum of so many variables, whose kids on the left are sums.
func chain(length int) api.Expr {
	return repeated(length-1, func(x api.Expr) api.Expr { return add(x, variable("a")) }, variable("a"))
}

// atomsOfText returns the atoms of a text.
func atomsOfText(t *testing.T, text string) []api.Token {
	t.Helper()
	atoms, f := lexer.Lex(text)
	if f != (api.Fault{}) {
		t.Fatalf("Lex(%q): %v", text, f)
	}
	return atoms[:len(atoms)-1]
}

// formulaOf returns the formula of a text.
func formulaOf(t *testing.T, text string) api.Expr {
	t.Helper()
	x, f := Parse(atomsOfText(t, text))
	if f != (api.Fault{}) {
		t.Fatalf("Parse of %q: %v", text, f)
	}
	return x
}

// copied returns a copy of a tree that shares no memory with it, with empty slices instead of nil ones.
func copied(x api.Expr) api.Expr {
	kids := []api.Expr{}
	for _, kid := range x.Kids {
		kids = append(kids, copied(kid))
	}
	x.Kids = kids
	return x
}

// moved returns a copy of a tree with other offsets.
func moved(x api.Expr) api.Expr {
	x = copied(x)
	x.At = 5 - x.At
	for i, kid := range x.Kids {
		x.Kids[i] = moved(kid)
	}
	return x
}

// names are the names of the variables of trees that grow returns.
var names = []string{"a", "art", "b_2", "difficulty"}

// grow returns a tree of at most the given depth, which is a formula if it is not too great.
func grow(random *rand.Rand, depth int) api.Expr {
	at := random.Intn(9) - 4
	numbers := []int64{0, 1, 500, 1000, 1250, 2000, 3000, 1000000, api.MaxNumber}
	if depth == 0 || random.Intn(6) == 0 {
		if random.Intn(3) == 0 {
			return api.Expr{Op: api.ExprConst, N: numbers[random.Intn(len(numbers))], At: at}
		}
		return api.Expr{Op: api.ExprVar, Name: names[random.Intn(len(names))], At: at}
	}
	x := api.Expr{Op: api.ExprNeg + random.Intn(7), Kids: []api.Expr{grow(random, depth-1)}, At: at}
	switch x.Op {
	case api.ExprNeg:
	case api.ExprDiv:
		x.Kids = append(x.Kids, number(numbers[1+random.Intn(len(numbers)-1)]))
	default:
		x.Kids = append(x.Kids, grow(random, depth-1))
	}
	return x
}

// odd are trees that are no formulas.
func odd() []api.Expr {
	a := variable("a")
	return []api.Expr{
		{}, {Op: -1}, {Op: 10, Kids: []api.Expr{a, a}}, {Op: 10}, {Op: 1 << 40, Kids: []api.Expr{a}}, {Op: -1 << 40, Name: "a"},
		number(-1), number(api.MaxNumber + 1), number(-1 << 63), {Op: api.ExprConst, Name: "a"}, {Op: api.ExprConst, N: 5, Kids: []api.Expr{a}},
		variable(""), variable("A"), variable("Abc"), variable("1"), variable("min"), variable("max"), variable("a b"), variable("+"), variable("a + b"), variable("abcdefghijklmnopq"), {Op: api.ExprVar, Name: "a", N: 1}, {Op: api.ExprVar, Name: "a", Kids: []api.Expr{a}}, {Op: api.ExprVar, N: 1000},
		{Op: api.ExprNeg}, {Op: api.ExprNeg, Kids: []api.Expr{a, a}}, {Op: api.ExprNeg, Kids: []api.Expr{a}, N: 1}, {Op: api.ExprNeg, Kids: []api.Expr{a}, Name: "a"},
		{Op: api.ExprAdd}, {Op: api.ExprAdd, Kids: []api.Expr{a}}, {Op: api.ExprSub, Kids: []api.Expr{a}}, {Op: api.ExprAdd, Kids: []api.Expr{a, a, a}}, {Op: api.ExprMul, Kids: []api.Expr{a, a}, N: 1}, {Op: api.ExprMin, Kids: []api.Expr{a, a}, Name: "min"}, {Op: api.ExprMin, Kids: []api.Expr{a}}, {Op: api.ExprMax, Kids: []api.Expr{a, a, a}}, {Op: api.ExprMax},
		{Op: api.ExprDiv, Kids: []api.Expr{a}}, div(a, a), div(a, number(0)), div(a, number(-1000)), div(a, neg(number(1000))), div(a, add(number(1000), number(1000))), div(number(1), div(number(1), number(1))), div(a, variable("min")),
	}
}

// withOdd returns trees that are no formulas, alone and as parts of others.
func withOdd() []api.Expr {
	a := variable("a")
	var all []api.Expr
	for _, x := range odd() {
		all = append(all, x, neg(x), add(x, a), add(a, x), sub(a, x), mul(x, a), div(x, number(1)), least(a, x), most(x, a), repeated(20, neg, x))
	}
	return all
}

func TestEqual(t *testing.T) {
	random := rand.New(rand.NewSource(40))
	for range 2000 {
		x, y := grow(random, random.Intn(4)), grow(random, random.Intn(4))
		if !Equal(x, x) || !Equal(x, moved(x)) || !Equal(moved(x), x) {
			t.Errorf("%v is not equal to itself", x)
		}
		want := reflect.DeepEqual(withoutOffsets(x), withoutOffsets(y))
		if Equal(x, y) != want || Equal(y, x) != want {
			t.Errorf("Equal(%v, %v) is not %v", x, y, want)
		}
	}
}

// withoutOffsets returns a copy of a tree without its offsets.
func withoutOffsets(x api.Expr) api.Expr {
	x = copied(x)
	x.At = 0
	for i, kid := range x.Kids {
		x.Kids[i] = withoutOffsets(kid)
	}
	return x
}

func TestEqualOfChangedTrees(t *testing.T) {
	for _, x := range append(withOdd(), formulaOf(t, "min(a, 2) + b * -c / 3"), api.Expr{Op: 77, Name: "!", N: -5, Kids: []api.Expr{{}, {Name: "b"}}, At: 9}) {
		if !Equal(x, x) || !Equal(x, copied(x)) || !Equal(moved(x), x) {
			t.Errorf("%v is not equal to itself", x)
		}
		for name, change := range map[string]func(y *api.Expr){
			"operation": func(y *api.Expr) { y.Op++ }, "name": func(y *api.Expr) { y.Name += "x" }, "number": func(y *api.Expr) { y.N++ }, "one more kid": func(y *api.Expr) { y.Kids = append(y.Kids, api.Expr{}) },
		} {
			y := copied(x)
			change(&y)
			if Equal(x, y) || Equal(y, x) || Equal(add(x, x), add(x, y)) || Equal(add(y, x), add(x, x)) || Equal(neg(neg(x)), neg(neg(y))) {
				t.Errorf("%s: %v and %v are equal", name, x, y)
			}
		}
	}
	a, b := variable("a"), variable("b")
	if Equal(add(a, b), add(b, a)) || Equal(a, neg(neg(a))) || Equal(add(a, add(a, a)), add(add(a, a), a)) || Equal(number(0), api.Expr{}) {
		t.Error("other trees are equal")
	}
}

func TestSizeAndVariables(t *testing.T) {
	for i, c := range []struct {
		x     api.Expr
		size  int
		names []string
	}{
		{formulaOf(t, "difficulty + 10 - artistry / 2"), 7, []string{"artistry", "difficulty"}},
		{number(5), 1, nil}, {variable("a"), 1, []string{"a"}}, {formulaOf(t, "--a"), 3, []string{"a"}}, {formulaOf(t, "min(b, (a)) * (b + a_1)"), 7, []string{"a", "a_1", "b"}},
		{chain(128), 255, []string{"a"}}, {chain(5000), 9999, []string{"a"}},
		// All trees are accepted, and only the nodes of variables have names.
		{api.Expr{}, 1, nil}, {api.Expr{Name: "a"}, 1, nil}, {api.Expr{Op: api.ExprConst, Name: "a"}, 1, nil}, {variable(""), 1, []string{""}}, {add(variable("min"), variable("B b")), 3, []string{"B b", "min"}},
		{api.Expr{Op: api.ExprVar, Name: "b", Kids: []api.Expr{variable("a"), number(1)}}, 3, []string{"a", "b"}}, {api.Expr{Op: 99, Kids: []api.Expr{variable("z"), {Kids: []api.Expr{variable("y"), variable("z")}}}}, 5, []string{"y", "z"}},
		{api.Expr{Op: api.ExprConst, Kids: []api.Expr{variable("a"), variable("a"), variable("a")}}, 4, []string{"a"}},
	} {
		before := copied(c.x)
		if size, all := Size(c.x), Variables(c.x); size != c.size || !slices.Equal(all, c.names) || !reflect.DeepEqual(copied(c.x), before) {
			t.Errorf("tree %d: %d, %q; want %d, %q", i, size, all, c.size, c.names)
		}
	}
}

func TestDeepTrees(t *testing.T) {
	const depth = 1 << 16
	for _, x := range []api.Expr{chain(depth), repeated(depth, neg, variable("a")), repeated(depth, func(x api.Expr) api.Expr { return mul(variable("a"), x) }, number(1)), repeated(depth, func(x api.Expr) api.Expr { return api.Expr{Op: 50, Kids: []api.Expr{x}} }, variable("a"))} {
		if Valid(x) || Size(x) < depth || len(Variables(x)) != 1 || !Equal(x, x) || Equal(x, neg(x)) {
			t.Error("a deep tree")
		}
		text, e := Print(x)
		_, g := Eval(x, nil)
		_, _, h := Linear(x)
		if text != "" || e != api.ErrArgument || g != api.ErrArgument || h != api.ErrArgument {
			t.Errorf("a deep tree: %d, %d, %d", e, g, h)
		}
	}
}
