package formula

import (
	"math"
	"math/big"
	"math/rand"
	"reflect"
	"slices"
	"testing"

	"salchow/api"
)

// frac returns a value of api.Frac.
func frac(num, den int64) api.Frac { return api.Frac{Num: num, Den: den} }

// values are fractions.
var values = []api.Frac{frac(0, 1), frac(1, 1), frac(-1, 1), frac(3, 2), frac(-53, 10), frac(1, 3), frac(999983, 1000003), frac(-7, 999999937), frac(1000000007, 3), frac(api.MaxNum, 1), frac(-api.MaxNum, 1), frac(1, api.MaxDen), frac(api.MaxNum-1, api.MaxDen)}

// invalid are values of api.Frac that are no fractions.
var invalid = []api.Frac{{}, frac(1, 0), frac(1, -2), frac(0, 2), frac(2, 4), frac(api.MaxNum+1, 1), frac(1, api.MaxDen+1), frac(math.MinInt64, 1)}

// exact returns a fraction as a number of math/big.
func exact(a api.Frac) *big.Rat { return big.NewRat(a.Num, a.Den) }

// bounded returns the fraction of a number, and whether there is one.
func bounded(x *big.Rat) (api.Frac, bool) {
	limit := big.NewInt(api.MaxNum)
	if x.Num().CmpAbs(limit) > 0 || x.Denom().CmpAbs(limit) > 0 {
		return api.Frac{}, false
	}
	return frac(x.Num().Int64(), x.Denom().Int64()), true
}

// valueOf returns the value of a formula, and whether all its parts are fractions.
func valueOf(x api.Expr, of map[string]api.Frac) (*big.Rat, bool) {
	v, inRange := new(big.Rat), true
	var kids []*big.Rat
	for _, kid := range x.Kids {
		k, ok := valueOf(kid, of)
		kids = append(kids, k)
		inRange = inRange && ok
	}
	switch x.Op {
	case api.ExprConst:
		v.SetFrac64(x.N, 1000)
	case api.ExprVar:
		v = exact(of[x.Name])
	case api.ExprNeg:
		v.Neg(kids[0])
	case api.ExprAdd:
		v.Add(kids[0], kids[1])
	case api.ExprSub:
		v.Sub(kids[0], kids[1])
	case api.ExprMul:
		v.Mul(kids[0], kids[1])
	case api.ExprDiv:
		v.Quo(kids[0], kids[1])
	case api.ExprMin:
		v = slices.MinFunc(kids, (*big.Rat).Cmp)
	case api.ExprMax:
		v = slices.MaxFunc(kids, (*big.Rat).Cmp)
	}
	_, ok := bounded(v)
	return v, inRange && ok
}

// named returns random values of all names.
func named(random *rand.Rand) ([]api.Named, map[string]api.Frac) {
	var list []api.Named
	of := map[string]api.Frac{}
	most := 4 + random.Intn(len(values)-3)
	for _, name := range names {
		v := values[random.Intn(most)]
		list, of[name] = append(list, api.Named{Name: name, Value: v}), v
	}
	return list, of
}

func TestEvalOfExamples(t *testing.T) {
	x := formulaOf(t, "difficulty + 10 - artistry / 2")
	list := []api.Named{{Name: "artistry", Value: frac(3, 2)}, {Name: "difficulty", Value: frac(53, 10)}}
	if v, e := Eval(x, list); v != frac(291, 20) || e != api.OK {
		t.Errorf("%v, %d", v, e)
	}
	of := []api.Named{{Name: "a", Value: frac(-3, 2)}, {Name: "b", Value: frac(1, 3)}}
	for text, want := range map[string]api.Frac{
		"0": frac(0, 1), "2.5": frac(5, 2), "1000000": frac(1000000, 1), "a": frac(-3, 2), "-a": frac(3, 2), "--a": frac(-3, 2), "a + b": frac(-7, 6), "a - b": frac(-11, 6), "a * b": frac(-1, 2), "a / 0.6": frac(-5, 2), "min(a, b)": frac(-3, 2), "min(b, a)": frac(-3, 2), "max(a, b)": frac(1, 3), "max(b, a)": frac(1, 3), "min(a, a)": frac(-3, 2), "a - b - a": frac(-1, 3), "a - (b - a)": frac(-10, 3), "-a * b + 1": frac(3, 2), "1 / 2 / 3": frac(1, 6), "max(min(a, 0), -1) * 3": frac(-3, 1),
	} {
		if v, e := Eval(formulaOf(t, text), of); v != want || e != api.OK {
			t.Errorf("Eval of %q: %v, %d; want %v", text, v, e, want)
		}
	}
}

func TestEvalOfRandomFormulas(t *testing.T) {
	random := rand.New(rand.NewSource(44))
	good, bad := 0, 0
	for range 20000 {
		x := grow(random, random.Intn(5))
		if !Valid(x) {
			continue
		}
		list, of := named(random)
		before, tree := slices.Clone(list), copied(x)
		v, inRange := valueOf(x, of)
		want, wantE := api.Frac{}, api.ErrRange
		if inRange {
			want, _ = bounded(v)
			wantE = api.OK
			good++
		} else {
			bad++
		}
		if got, e := Eval(x, list); got != want || e != wantE {
			t.Errorf("Eval of %s for %v: %v, %d; want %v, %d", textOf(x), list, got, e, want, wantE)
		}
		if !slices.Equal(list, before) || !reflect.DeepEqual(copied(x), tree) {
			t.Errorf("Eval of %s has changed its arguments", textOf(x))
		}
		// The values of other names, and offsets, do not matter.
		all := slices.Concat([]api.Named{{Name: "", Value: frac(1, 7)}, {Name: "A b", Value: values[9]}}, list, []api.Named{{Name: "zz", Value: values[10]}})
		if got, e := Eval(moved(x), all); got != want || e != wantE {
			t.Errorf("Eval of %s with other names: %v, %d", textOf(x), got, e)
		}
		needed := slices.DeleteFunc(slices.Clone(list), func(n api.Named) bool { return !slices.Contains(Variables(x), n.Name) })
		if got, e := Eval(x, needed); got != want || e != wantE {
			t.Errorf("Eval of %s without other names: %v, %d", textOf(x), got, e)
		}
		for i := range needed {
			if got, e := Eval(x, slices.Delete(slices.Clone(needed), i, i+1)); got != (api.Frac{}) || e != api.ErrName {
				t.Errorf("Eval of %s without %s: %v, %d", textOf(x), needed[i].Name, got, e)
			}
		}
	}
	if good < 5000 || bad < 1000 {
		t.Errorf("%d formulas have a value, %d have none", good, bad)
	}
}

func TestErrorsOfEval(t *testing.T) {
	one := frac(1, 1)
	big := frac(api.MaxNum, 1)
	ab := []api.Named{{Name: "a", Value: one}, {Name: "b", Value: big}}
	check := func(x api.Expr, list []api.Named, want api.Errno) {
		t.Helper()
		if v, e := Eval(x, list); v != (api.Frac{}) || e != want {
			t.Errorf("Eval(%v, %v): %v, %d; want %d", x, list, v, e, want)
		}
	}
	for _, x := range withOdd() {
		check(x, ab, api.ErrArgument)
		check(x, nil, api.ErrArgument)
	}
	sum, overflow, missing := formulaOf(t, "a + b"), formulaOf(t, "b * b"), formulaOf(t, "b * b + c")
	for _, list := range [][]api.Named{
		{{Name: "b", Value: one}, {Name: "a", Value: one}}, {{Name: "a", Value: one}, {Name: "a", Value: one}, {Name: "b", Value: one}}, {{Name: "a", Value: one}, {Name: "b", Value: one}, {Name: "B", Value: one}}, {{Name: "a", Value: one}, {Name: "b", Value: one}, {Name: "", Value: one}}, {{Name: "b", Value: big}, {Name: "b", Value: big}},
	} {
		// They come before a name without a value and before the range.
		check(sum, list, api.ErrArgument)
		check(overflow, list, api.ErrArgument)
		check(missing, list, api.ErrArgument)
		check(number(1), list, api.ErrArgument)
	}
	for _, bad := range invalid {
		for i := range 3 {
			list := []api.Named{{Name: "a", Value: one}, {Name: "b", Value: big}, {Name: "d", Value: one}}
			list[i].Value = bad
			check(sum, list, api.ErrArgument)
			check(overflow, list, api.ErrArgument)
			check(missing, list, api.ErrArgument)
			check(number(1), list, api.ErrArgument)
		}
	}
	// A name without a value comes before the range.
	check(missing, ab, api.ErrName)
	check(sum, ab[:1], api.ErrName)
	check(sum, ab[1:], api.ErrName)
	check(variable("a"), nil, api.ErrName)
	check(formulaOf(t, "min(a, c)"), ab, api.ErrName)
	for _, text := range []string{"b * b", "b + 1", "-b - 1", "b * b - b * b", "min(0, b * b)", "max(b + b, b)", "0 * (b + b)", "(b + b) / 2", "b / 0.5", "a / 1000000 / 1000000 / 1000000 / 1000"} {
		check(formulaOf(t, text), ab, api.ErrRange)
	}
	for text, want := range map[string]api.Frac{"b - b + b": big, "-b": frac(-api.MaxNum, 1), "b / 1": big, "max(b, -b)": big, "a / 1000000 / 1000000 / 1000000": frac(1, api.MaxDen)} {
		if v, e := Eval(formulaOf(t, text), ab); v != want || e != api.OK {
			t.Errorf("Eval of %q: %v, %d", text, v, e)
		}
	}
	if v, e := Eval(number(2500), nil); v != frac(5, 2) || e != api.OK {
		t.Errorf("Eval of a number: %v, %d", v, e)
	}
}
