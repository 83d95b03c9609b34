package formula

import (
	"maps"
	"math/big"
	"math/rand"
	"reflect"
	"slices"
	"testing"

	"salchow/api"
)

// varies reports whether a tree has a variable.
func varies(x api.Expr) bool {
	return x.Op == api.ExprVar || slices.ContainsFunc(x.Kids, varies)
}

// linear reports whether a formula is linear, by the definition.
func linear(x api.Expr) bool {
	switch x.Op {
	case api.ExprConst, api.ExprVar:
		return true
	case api.ExprNeg, api.ExprDiv:
		return linear(x.Kids[0])
	case api.ExprAdd, api.ExprSub:
		return linear(x.Kids[0]) && linear(x.Kids[1])
	case api.ExprMul:
		return linear(x.Kids[0]) && !varies(x.Kids[1]) || !varies(x.Kids[0]) && linear(x.Kids[1])
	}
	return !varies(x)
}

// partsOf returns the coefficients of a linear formula, with the constant under the name 1, and whether all those of its parts are fractions.
func partsOf(x api.Expr) (map[string]*big.Rat, bool) {
	result := map[string]*big.Rat{}
	for _, name := range append([]string{"1"}, names...) {
		result[name] = new(big.Rat)
	}
	inRange := true
	var kids []map[string]*big.Rat
	for _, kid := range x.Kids {
		k, ok := partsOf(kid)
		kids, inRange = append(kids, k), inRange && ok
	}
	for name, c := range result {
		switch x.Op {
		case api.ExprNeg:
			c.Neg(kids[0][name])
		case api.ExprAdd:
			c.Add(kids[0][name], kids[1][name])
		case api.ExprSub:
			c.Sub(kids[0][name], kids[1][name])
		case api.ExprDiv:
			c.Quo(kids[0][name], kids[1]["1"])
		case api.ExprMul:
			if varies(x.Kids[0]) {
				c.Mul(kids[0][name], kids[1]["1"])
			} else {
				c.Mul(kids[1][name], kids[0]["1"])
			}
		}
	}
	switch x.Op {
	case api.ExprConst:
		result["1"].SetFrac64(x.N, 1000)
	case api.ExprVar:
		result[x.Name].SetInt64(1)
	case api.ExprMin, api.ExprMax:
		v, ok := valueOf(x, nil)
		result["1"], inRange = v, inRange && ok
	}
	for _, c := range result {
		_, ok := bounded(c)
		inRange = inRange && ok
	}
	return result, inRange
}

// growLinear returns a linear formula of at most the given depth, if it is not too great.
func growLinear(random *rand.Rand, depth int) api.Expr {
	if depth == 0 {
		return grow(random, 0)
	}
	x := growLinear(random, depth-1)
	switch random.Intn(6) {
	case 0:
		return neg(x)
	case 1:
		return add(x, growLinear(random, depth-1))
	case 2:
		return sub(growLinear(random, depth-1), x)
	case 3:
		return mul(x, withoutVariables(grow(random, 2)))
	case 4:
		return mul(withoutVariables(grow(random, 2)), x)
	}
	return div(x, number(3500))
}

// withoutVariables returns a tree with numbers in place of its variables.
func withoutVariables(x api.Expr) api.Expr {
	x = copied(x)
	if x.Op == api.ExprVar {
		x.Op, x.Name, x.N = api.ExprConst, "", int64(len(x.Name))*100000
	}
	for i, kid := range x.Kids {
		x.Kids[i] = withoutVariables(kid)
	}
	return x
}

func TestLinearOfExamples(t *testing.T) {
	one := frac(1, 1)
	for text, want := range map[string]struct {
		coefficients []api.Named
		constant     api.Frac
	}{
		"difficulty + 10 - artistry / 2": {[]api.Named{{Name: "artistry", Value: frac(-1, 2)}, {Name: "difficulty", Value: one}}, frac(10, 1)},
		"min(3, 4)":                      {nil, frac(3, 1)},
		"max(3, 4) - 0.5":                {nil, frac(7, 2)},
		"0":                              {nil, frac(0, 1)},
		"a":                              {[]api.Named{{Name: "a", Value: one}}, frac(0, 1)},
		"-a":                             {[]api.Named{{Name: "a", Value: frac(-1, 1)}}, frac(0, 1)},
		"-(a - 2)":                       {[]api.Named{{Name: "a", Value: frac(-1, 1)}}, frac(2, 1)},
		"b - a":                          {[]api.Named{{Name: "a", Value: frac(-1, 1)}, {Name: "b", Value: one}}, frac(0, 1)},
		"a + a":                          {[]api.Named{{Name: "a", Value: frac(2, 1)}}, frac(0, 1)},
		"a - a + 1":                      {nil, frac(1, 1)},
		"0 * a + b * 0":                  {nil, frac(0, 1)},
		"3 * (a + 1) * 0.5":              {[]api.Named{{Name: "a", Value: frac(3, 2)}}, frac(3, 2)},
		"(a + 1) * min(2, 3)":            {[]api.Named{{Name: "a", Value: frac(2, 1)}}, frac(2, 1)},
		"(2 - 3) * (a - b)":              {[]api.Named{{Name: "a", Value: frac(-1, 1)}, {Name: "b", Value: one}}, frac(0, 1)},
		"2 * 3":                          {nil, frac(6, 1)},
		"(a + 6) / 3 / 0.5":              {[]api.Named{{Name: "a", Value: frac(2, 3)}}, frac(4, 1)},
		"c + b + a":                      {[]api.Named{{Name: "a", Value: one}, {Name: "b", Value: one}, {Name: "c", Value: one}}, frac(0, 1)},
	} {
		c, k, e := Linear(formulaOf(t, text))
		if !slices.Equal(c, want.coefficients) || k != want.constant || e != api.OK {
			t.Errorf("Linear of %q: %v, %v, %d; want %v", text, c, k, e, want)
		}
	}
}

func TestFormulasThatAreNotLinear(t *testing.T) {
	check := func(x api.Expr, want api.Errno) {
		t.Helper()
		if c, k, e := Linear(x); len(c) > 0 || k != (api.Frac{}) || e != want {
			t.Errorf("Linear of %v: %v, %v, %d; want %d", x, c, k, e, want)
		}
	}
	for _, text := range []string{"min(difficulty, 4)", "max(1, a)", "a * a", "a * b", "a * (b - b)", "(a - a) * (b - b)", "0 * min(a, a)", "2 + -(a * b) / 3", "(a * b) * 0", "0 * (a * b)", "min(a * b, 1)",
		// It comes before the range.
		"1000000 * 1000000 * 1000000 * 1000000 + a * a", "a * a + 1000000 * 1000000 * 1000000 * 1000000", "min(1000000 * 1000000 * 1000000 * 1000000, a)"} {
		check(formulaOf(t, text), api.ErrNone)
	}
	for _, x := range withOdd() {
		check(x, api.ErrArgument)
	}
	huge := "1000000 * 1000000 * 1000000"
	for _, text := range []string{huge + " * 2", huge + " + 1", "0 * (" + huge + " * 2)", "a * (" + huge + ") * 2", "2 * (" + huge + " * a)", huge + " * a + a", "a + " + huge + " * a", "-a - " + huge + " * a", "(a + 1000000) / 0.001 * 1000000 * 1000000", "a / 1000000 / 1000000 / 1000000 / 10", "min(" + huge + " * 2, 1) * a", "(" + huge + " + 1) * a", "a * 0 + (" + huge + " - -1)", "(" + huge + " * a + a) * 0"} {
		check(formulaOf(t, text), api.ErrRange)
	}
	big := frac(api.MaxNum, 1)
	if c, k, e := Linear(formulaOf(t, huge+" * a - "+huge)); !slices.Equal(c, []api.Named{{Name: "a", Value: big}}) || k != frac(-api.MaxNum, 1) || e != api.OK {
		t.Errorf("the greatest coefficient: %v, %v, %d", c, k, e)
	}
}

func TestLinearOfRandomFormulas(t *testing.T) {
	random := rand.New(rand.NewSource(45))
	counts := map[api.Errno]int{}
	for range 8000 {
		x := grow(random, random.Intn(5))
		if random.Intn(2) == 0 {
			x = growLinear(random, random.Intn(16))
		}
		if !Valid(x) {
			continue
		}
		var want []api.Named
		var constant api.Frac
		wantE := api.ErrNone
		if linear(x) {
			parts, inRange := partsOf(x)
			wantE = api.ErrRange
			if inRange {
				wantE = api.OK
				constant, _ = bounded(parts["1"])
				for _, name := range slices.Sorted(maps.Keys(parts)) {
					if c, _ := bounded(parts[name]); c.Num != 0 && name != "1" {
						want = append(want, api.Named{Name: name, Value: c})
					}
				}
			}
		}
		counts[wantE]++
		before := copied(x)
		c, k, e := Linear(x)
		if !slices.Equal(c, want) || k != constant || e != wantE {
			t.Errorf("Linear of %s: %v, %v, %d; want %v, %v, %d", textOf(x), c, k, e, want, constant, wantE)
		}
		if d, m, g := Linear(moved(x)); !slices.Equal(c, d) || k != m || e != g || !reflect.DeepEqual(copied(x), before) {
			t.Errorf("Linear of %s depends on offsets, or changes the tree", textOf(x))
		}
		checkSum(t, random, x, c, k, e)
	}
	if counts[api.OK] < 1000 || counts[api.ErrNone] < 1000 || counts[api.ErrRange] < 100 {
		t.Errorf("the formulas are not mixed: %v", counts)
	}
}

// checkSum checks that the value of a linear formula is the constant plus the sum of the products, if no part is outside the range.
func checkSum(t *testing.T, random *rand.Rand, x api.Expr, coefficients []api.Named, constant api.Frac, e api.Errno) {
	t.Helper()
	list, of := named(random)
	v, g := Eval(x, list)
	if e != api.OK || g != api.OK {
		return
	}
	sum := exact(constant)
	for _, c := range coefficients {
		sum.Add(sum, new(big.Rat).Mul(exact(c.Value), exact(of[c.Name])))
	}
	if sum.Cmp(exact(v)) != 0 {
		t.Errorf("%s has the value %v for %v, but the sum is %v", textOf(x), v, list, sum)
	}
}
