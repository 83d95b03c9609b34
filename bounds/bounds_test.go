package bounds

import (
	"math"
	"math/big"
	"math/rand"
	"reflect"
	"slices"
	"testing"

	"salchow/api"
	"salchow/formula"
	"salchow/interval"
	"salchow/lexer"
)

// frac returns a value of api.Frac.
func frac(num, den int64) api.Frac { return api.Frac{Num: num, Den: den} }

// span returns the interval between two integers.
func span(lo, hi int64) api.Interval { return api.Interval{Lo: frac(lo, 1), Hi: frac(hi, 1)} }

// formulaOf returns the formula of a text.
func formulaOf(t *testing.T, text string) api.Expr {
	t.Helper()
	atoms, f := lexer.Lex(text)
	if f != (api.Fault{}) {
		t.Fatalf("Lex(%q): %v", text, f)
	}
	x, f := formula.Parse(atoms[:len(atoms)-1])
	if f != (api.Fault{}) {
		t.Fatalf("Parse of %q: %v", text, f)
	}
	return x
}

// names are the names of the variables of formulas that grow returns.
var names = []string{"a", "art", "b", "difficulty"}

// ends are the ends of ranges, from the least to the greatest.
var ends = []api.Frac{
	frac(-api.MaxNum, 1), frac(-1000000007, 3), frac(-7, 1), frac(-3, 2), frac(-1, 999999999999), frac(0, 1), frac(1, api.MaxDen), frac(1, 3), frac(1, 1), frac(9, 4), frac(6, 1), frac(1000003, 1), frac(api.MaxNum-1, 1),
}

// short are the ends between which most formulas are in range.
var short = []api.Frac{frac(-7, 1), frac(-3, 2), frac(0, 1), frac(1, 3), frac(1, 1), frac(9, 4), frac(6, 1)}

// invalid are values of api.Interval that are no intervals.
var invalid = []api.Interval{
	{}, span(1, 0), {Lo: frac(1, 2), Hi: frac(1, 3)}, {Lo: frac(0, 2), Hi: frac(1, 1)}, {Lo: frac(0, 1), Hi: frac(2, 4)}, {Lo: frac(0, 1)}, {Hi: frac(0, 1)}, {Lo: frac(0, 1), Hi: frac(1, -2)}, {Lo: frac(0, 1), Hi: frac(api.MaxNum+1, 1)}, {Lo: frac(math.MinInt64, 1), Hi: frac(0, 1)},
}

// grow returns a formula of at most the given depth.
func grow(random *rand.Rand, depth int) api.Expr {
	numbers := []int64{0, 1, 500, 1000, 1250, 3000, api.MaxNumber}
	if depth == 0 || random.Intn(6) == 0 {
		if random.Intn(4) == 0 {
			return api.Expr{Op: api.ExprConst, N: numbers[random.Intn(len(numbers))]}
		}
		return api.Expr{Op: api.ExprVar, Name: names[random.Intn(len(names))]}
	}
	x := api.Expr{Op: api.ExprNeg + random.Intn(7), Kids: []api.Expr{grow(random, depth-1)}, At: random.Intn(9) - 4}
	switch x.Op {
	case api.ExprNeg:
	case api.ExprDiv:
		x.Kids = append(x.Kids, api.Expr{Op: api.ExprConst, N: numbers[1+random.Intn(len(numbers)-1)]})
	default:
		x.Kids = append(x.Kids, grow(random, depth-1))
	}
	return x
}

// within returns a random interval between some increasing ends.
func within(random *rand.Rand, ends []api.Frac) api.Interval {
	i := random.Intn(len(ends))
	return api.Interval{Lo: ends[i], Hi: ends[i+random.Intn(len(ends)-i)]}
}

// boxesOf returns random boxes of all variables, and of some other names.
func boxesOf(random *rand.Rand, ends []api.Frac) []Box {
	var boxes []Box
	for _, name := range []string{"", "A b", "a", "art", "b", "difficulty", "zz"} {
		if slices.Contains(names, name) || random.Intn(4) == 0 {
			boxes = append(boxes, Box{name, within(random, ends)})
		}
	}
	return boxes
}

// copied returns a copy of a tree that shares no memory with it.
func copied(x api.Expr) api.Expr {
	var kids []api.Expr
	for _, kid := range x.Kids {
		kids = append(kids, copied(kid))
	}
	x.Kids = kids
	return x
}

// exact returns a fraction as a number of math/big.
func exact(a api.Frac) *big.Rat { return big.NewRat(a.Num, a.Den) }

// bounded returns the fraction of a number, and whether there is one.
func bounded(x *big.Rat) (api.Frac, bool) {
	limit := big.NewInt(api.MaxNum)
	if x.Num().CmpAbs(limit) > 0 || x.Denom().CmpAbs(limit) > 0 {
		return api.Frac{}, false
	}
	return frac(x.Num().Int64(), x.Denom().Int64()), true
}

// results returns the numbers that chapter 8 names for the extension of the operation of a node to the intervals of its kids.
func results(x api.Expr, boxes []Box, kids []api.Interval) []*big.Rat {
	new := func() *big.Rat { return new(big.Rat) }
	var lo, hi []*big.Rat
	for _, kid := range kids {
		lo, hi = append(lo, exact(kid.Lo)), append(hi, exact(kid.Hi))
	}
	switch x.Op {
	case api.ExprConst:
		return []*big.Rat{big.NewRat(x.N, 1000)}
	case api.ExprNeg:
		return []*big.Rat{new().Neg(lo[0]), new().Neg(hi[0])}
	case api.ExprAdd:
		return []*big.Rat{new().Add(lo[0], lo[1]), new().Add(hi[0], hi[1])}
	case api.ExprSub:
		return []*big.Rat{new().Sub(lo[0], hi[1]), new().Sub(hi[0], lo[1])}
	case api.ExprMul:
		return []*big.Rat{new().Mul(lo[0], lo[1]), new().Mul(lo[0], hi[1]), new().Mul(hi[0], lo[1]), new().Mul(hi[0], hi[1])}
	case api.ExprDiv:
		by := big.NewRat(x.Kids[1].N, 1000)
		return []*big.Rat{new().Quo(lo[0], by), new().Quo(hi[0], by)}
	case api.ExprMin:
		return []*big.Rat{slices.MinFunc(lo, (*big.Rat).Cmp), slices.MinFunc(hi, (*big.Rat).Cmp)}
	case api.ExprMax:
		return []*big.Rat{slices.MaxFunc(lo, (*big.Rat).Cmp), slices.MaxFunc(hi, (*big.Rat).Cmp)}
	}
	for _, b := range boxes {
		if b.Name == x.Name {
			return []*big.Rat{exact(b.Range.Lo), exact(b.Range.Hi)}
		}
	}
	return nil
}

// extensionOf returns the extension of the operation of a node to the intervals of its kids, and whether it is in range.
func extensionOf(x api.Expr, boxes []Box, kids []api.Interval) (api.Interval, bool) {
	list := results(x, boxes, kids)
	for _, r := range list {
		if _, ok := bounded(r); !ok {
			return api.Interval{}, false
		}
	}
	lo, _ := bounded(slices.MinFunc(list, (*big.Rat).Cmp))
	hi, _ := bounded(slices.MaxFunc(list, (*big.Rat).Cmp))
	return api.Interval{Lo: lo, Hi: hi}, true
}

// boundsOf returns the bounds of the nodes of a formula, a node before its kids, and whether they are in range.
func boundsOf(x api.Expr, boxes []Box) ([]api.Interval, bool) {
	var kids, below []api.Interval
	for _, kid := range x.Kids {
		list, ok := boundsOf(kid, boxes)
		if !ok {
			return nil, false
		}
		kids, below = append(kids, list[0]), append(below, list...)
	}
	own, ok := extensionOf(x, boxes, kids)
	return append([]api.Interval{own}, below...), ok
}

// proves reports whether a trace, whose intervals are valid, proves the bounds of a formula, and returns what of it is behind the nodes of the formula.
func proves(x api.Expr, boxes []Box, trace []api.Interval) ([]api.Interval, bool) {
	rest, all := trace[1:], true
	var kids []api.Interval
	for _, kid := range x.Kids {
		kids = append(kids, rest[0])
		behind, ok := proves(kid, boxes, rest)
		rest, all = behind, all && ok
	}
	own, ok := extensionOf(x, boxes, kids)
	return rest, all && ok && exact(trace[0].Lo).Cmp(exact(own.Lo)) <= 0 && exact(own.Hi).Cmp(exact(trace[0].Hi)) <= 0
}

// refuses checks that all functions refuse a formula and boxes with an error.
func refuses(t *testing.T, x api.Expr, boxes []Box, want api.Errno) {
	t.Helper()
	if e := Check(x, boxes); e != want && want != api.ErrRange || want == api.ErrRange && e != api.OK {
		t.Errorf("Check(%v, %v): %d; want %d", x, boxes, e, want)
	}
	if b, e := Of(x, boxes); b != (api.Interval{}) || e != want {
		t.Errorf("Of(%v, %v): %v, %d; want %d", x, boxes, b, e, want)
	}
	if trace, e := Trace(x, boxes); len(trace) != 0 || e != want {
		t.Errorf("Trace(%v, %v): %v, %d; want %d", x, boxes, trace, e, want)
	}
	if d, e := Directions(x, boxes); len(d) != 0 || e != want {
		t.Errorf("Directions(%v, %v): %v, %d; want %d", x, boxes, d, e, want)
	}
	if least, greatest, e := Corners(x, boxes); len(least) != 0 || len(greatest) != 0 || e != want {
		t.Errorf("Corners(%v, %v): %v, %v, %d; want %d", x, boxes, least, greatest, e, want)
	}
}

func TestCheckAndErrors(t *testing.T) {
	a, b, c := Box{"a", span(0, 1)}, Box{"b", span(-api.MaxNum, api.MaxNum)}, Box{"c", span(2, 2)}
	sum, overflow, missing := formulaOf(t, "a + c"), formulaOf(t, "b * b + a"), formulaOf(t, "b * b + d")
	for _, boxes := range [][]Box{{a, b, c}, {a, c}, {{"", span(0, 1)}, {"A b", span(0, 1)}, a, b, c, {"max", span(0, 0)}}} {
		if e := Check(sum, boxes); e != api.OK {
			t.Errorf("Check of %v: %d", boxes, e)
		}
	}
	if e := Check(formulaOf(t, "2.5"), nil); e != api.OK {
		t.Errorf("Check of a number: %d", e)
	}
	// Names that are not strictly increasing come before names that are missing, and before the range.
	for _, boxes := range [][]Box{{b, a, c}, {a, a, b, c}, {a, b, c, c}, {a, b, c, {"", span(0, 1)}}, {b, b}} {
		for _, x := range []api.Expr{sum, overflow, missing, formulaOf(t, "1")} {
			refuses(t, x, boxes, api.ErrArgument)
		}
	}
	// So do ranges that are not valid, whether the formula has the variable or not.
	for _, bad := range invalid {
		for i := range 3 {
			boxes := []Box{a, b, c}
			boxes[i].Range = bad
			for _, x := range []api.Expr{sum, overflow, missing, formulaOf(t, "1")} {
				refuses(t, x, boxes, api.ErrArgument)
			}
		}
	}
	for _, boxes := range [][]Box{nil, {a}, {c}, {a, b}, {{"", span(0, 1)}}, {{"A", span(0, 1)}, {"C", span(0, 1)}}} {
		refuses(t, sum, boxes, api.ErrName)
	}
	refuses(t, missing, []Box{a, b, c}, api.ErrName)
	refuses(t, overflow, []Box{a, b, c}, api.ErrRange)
	for _, text := range []string{"b * b", "b + 1", "1 - b", "min(0, b * 2)", "(b + b) * 0", "(b - b) / 2", "b / 0.5", "b - b"} {
		refuses(t, formulaOf(t, text), []Box{a, b, c}, api.ErrRange)
	}
}

func TestWhatIsNoFormula(t *testing.T) {
	a := api.Expr{Op: api.ExprVar, Name: "a"}
	boxes := []Box{{"", span(0, 1)}, {"A", span(0, 1)}, {"a", span(0, 1)}, {"min", span(0, 1)}}
	list := []api.Expr{
		{}, {Op: -1}, {Op: 10, Kids: []api.Expr{a, a}}, {Op: api.ExprConst, N: -1}, {Op: api.ExprConst, N: api.MaxNumber + 1}, {Op: api.ExprVar}, {Op: api.ExprVar, Name: "A"}, {Op: api.ExprVar, Name: "min"}, {Op: api.ExprVar, Name: "a", N: 1}, {Op: api.ExprNeg}, {Op: api.ExprNeg, Kids: []api.Expr{a, a}}, {Op: api.ExprAdd, Kids: []api.Expr{a}}, {Op: api.ExprMax, Kids: []api.Expr{a, a, a}}, {Op: api.ExprDiv, Kids: []api.Expr{a, a}}, {Op: api.ExprDiv, Kids: []api.Expr{a, {Op: api.ExprConst}}}, {Op: api.ExprDiv, Kids: []api.Expr{a, {Op: api.ExprConst, N: -1000}}}, {Op: api.ExprMul, Kids: []api.Expr{a, {}}},
	}
	deep, shared := a, a
	for range 40 {
		deep, shared = api.Expr{Op: api.ExprNeg, Kids: []api.Expr{deep}}, api.Expr{Op: api.ExprAdd, Kids: []api.Expr{shared, shared}}
	}
	for _, x := range append(list, deep, shared) {
		refuses(t, x, boxes, api.ErrArgument)
		refuses(t, x, nil, api.ErrArgument)
		if Verify(x, boxes, []api.Interval{span(0, 1)}) || Verify(x, boxes, nil) {
			t.Errorf("Verify of %v", x)
		}
	}
}

func TestExamplesOfBounds(t *testing.T) {
	first := []Box{{"art", span(-1, 5)}, {"difficulty", span(0, 10)}, {"penalties", span(0, 3)}}
	second := []Box{{"a", span(-1, 1)}, {"b", span(0, 2)}, {"c", span(-4, -2)}}
	for text, c := range map[string]struct {
		boxes []Box
		trace []api.Interval
	}{
		"difficulty - penalties + max(art, 0)": {first, []api.Interval{span(-3, 15), span(-3, 10), span(0, 10), span(0, 3), span(0, 5), span(-1, 5), span(0, 0)}},
		"a * b":                                {second, []api.Interval{span(-2, 2), span(-1, 1), span(0, 2)}},
		"b - b":                                {second, []api.Interval{span(-2, 2), span(0, 2), span(0, 2)}},
		"-c":                                   {second, []api.Interval{span(2, 4), span(-4, -2)}},
		"c / 0.5":                              {second, []api.Interval{span(-8, -4), span(-4, -2), {Lo: frac(1, 2), Hi: frac(1, 2)}}},
		"min(a, c) + max(b, c)":                {second, []api.Interval{span(-4, 0), span(-4, -2), span(-1, 1), span(-4, -2), span(0, 2), span(0, 2), span(-4, -2)}},
		"7":                                    {nil, []api.Interval{span(7, 7)}},
	} {
		x := formulaOf(t, text)
		trace, e := Trace(x, c.boxes)
		if !slices.Equal(trace, c.trace) || e != api.OK || !Verify(x, c.boxes, trace) {
			t.Errorf("Trace of %s: %v, %d", text, trace, e)
		}
		if b, e := Of(x, c.boxes); b != c.trace[0] || e != api.OK {
			t.Errorf("Of %s: %v, %d", text, b, e)
		}
	}
}

func TestTraceOfRandomFormulas(t *testing.T) {
	random := rand.New(rand.NewSource(50))
	good, bad := 0, 0
	for i := range 20000 {
		x, boxes := grow(random, random.Intn(6)), boxesOf(random, ends)
		if i%2 == 0 {
			boxes = boxesOf(random, short)
		}
		tree, before := copied(x), slices.Clone(boxes)
		want, ok := boundsOf(x, boxes)
		if !ok {
			bad++
			refuses(t, x, boxes, api.ErrRange)
			continue
		}
		good++
		trace, e := Trace(x, boxes)
		if !slices.Equal(trace, want) || e != api.OK {
			t.Errorf("Trace(%v, %v): %v, %d; want %v", x, boxes, trace, e, want)
		}
		if b, e := Of(x, boxes); b != want[0] || e != api.OK {
			t.Errorf("Of(%v, %v): %v, %d; want %v", x, boxes, b, e, want[0])
		}
		if e := Check(x, boxes); e != api.OK || !Verify(x, boxes, trace) {
			t.Errorf("Verify(%v, %v, %v): it is not proved", x, boxes, trace)
		}
		if !reflect.DeepEqual(copied(x), tree) || !slices.Equal(boxes, before) {
			t.Errorf("%v or %v has changed", x, boxes)
		}
	}
	if good < 8000 || bad < 2000 {
		t.Errorf("%d formulas are in range, %d are not", good, bad)
	}
}

func TestVerifyOfRandomTraces(t *testing.T) {
	random := rand.New(rand.NewSource(51))
	found := map[bool]int{}
	for range 20000 {
		x, boxes := grow(random, random.Intn(4)), boxesOf(random, short)
		trace, ok := boundsOf(x, boxes)
		if !ok {
			continue
		}
		for range 1 + random.Intn(2*len(trace)) {
			i := random.Intn(len(trace))
			other := within(random, ends)
			switch random.Intn(4) {
			case 0:
				trace[i] = other
			case 1:
				trace[i].Lo = frac(-1000, 1)
			case 2:
				trace[i].Hi = frac(1000, 1)
			case 3:
				trace[i], _ = interval.Hull(trace[i], other)
			}
		}
		if slices.ContainsFunc(trace, func(a api.Interval) bool { return !interval.Valid(a) }) {
			if Verify(x, boxes, trace) {
				t.Errorf("Verify(%v, %v, %v) with an invalid interval", x, boxes, trace)
			}
			continue
		}
		before := slices.Clone(trace)
		_, want := proves(x, boxes, trace)
		found[want]++
		if Verify(x, boxes, trace) != want || !slices.Equal(trace, before) {
			t.Errorf("Verify(%v, %v, %v) is not %v", x, boxes, trace, want)
		}
		value, e := formula.Eval(x, pointsOf(random, boxes))
		if want && e == api.OK && !interval.Contains(trace[0], value) {
			t.Errorf("%v: the value %v is not within the interval of %v", x, value, trace)
		}
	}
	if found[true] < 2000 || found[false] < 5000 {
		t.Errorf("%v", found)
	}
}

func TestVerifyRefuses(t *testing.T) {
	boxes := []Box{{"a", span(-1, 1)}, {"b", span(0, 2)}}
	x := formulaOf(t, "a * b - min(a, 2) / 0.5")
	good, _ := Trace(x, boxes)
	// Every interval is as small as possible for those of its kids.
	for i := range good {
		for _, change := range []func(a *api.Interval){
			func(a *api.Interval) { a.Lo = a.Hi },
			func(a *api.Interval) { a.Hi = a.Lo },
		} {
			trace := slices.Clone(good)
			change(&trace[i])
			if trace[i] != good[i] && Verify(x, boxes, trace) {
				t.Errorf("Verify with a smaller interval %d", i)
			}
		}
		for _, bad := range invalid {
			trace := slices.Clone(good)
			trace[i] = bad
			if Verify(x, boxes, trace) {
				t.Errorf("Verify with %v at %d", bad, i)
			}
		}
	}
	if !Verify(x, boxes, good) || Verify(x, boxes, good[:len(good)-1]) || Verify(x, boxes, good[1:]) || Verify(x, boxes, append(slices.Clone(good), span(0, 1))) || Verify(x, boxes, nil) {
		t.Error("Verify accepts another length")
	}
	if Verify(x, boxes[:1], good) || Verify(x, []Box{boxes[1], boxes[0]}, good) || Verify(x, []Box{boxes[0], {"b", span(2, 0)}}, good) || Verify(x, append(slices.Clone(boxes), Box{"c", api.Interval{}}), good) {
		t.Error("Verify accepts boxes that Check refuses")
	}
	if !Verify(x, []Box{{"a", span(-1, 0)}, {"b", span(1, 2)}}, good) || Verify(x, []Box{boxes[0], {"b", span(0, 3)}}, good) {
		t.Error("Verify of other boxes")
	}
	// The number of a quotient counts, and not the interval that its node has.
	quotient := formulaOf(t, "a / 0.5")
	if !Verify(quotient, boxes, []api.Interval{span(-2, 2), span(-1, 1), span(-5, 5)}) || Verify(quotient, boxes, []api.Interval{span(-2, 2), span(-1, 1), span(1, 5)}) {
		t.Error("Verify of a quotient")
	}
}

func TestVerifyWithoutBounds(t *testing.T) {
	// The product of the two fine ends is out of range, so that there are no bounds; wider intervals avoid it.
	fine := frac(1, 999999999999)
	boxes := []Box{{"a", api.Interval{Lo: fine, Hi: frac(1, 1)}}, {"b", api.Interval{Lo: frac(-1, 1), Hi: fine}}}
	x := formulaOf(t, "a * b")
	refuses(t, x, boxes, api.ErrRange)
	if !Verify(x, boxes, []api.Interval{span(-1, 1), span(0, 1), span(-1, 1)}) {
		t.Error("Verify of a trace of wider intervals")
	}
	if Verify(x, boxes, []api.Interval{span(-1, 1), boxes[0].Range, boxes[1].Range}) {
		t.Error("Verify of a trace with an extension that is out of range")
	}
}

func TestGreaterBoxesHaveGreaterBounds(t *testing.T) {
	random := rand.New(rand.NewSource(52))
	compared := 0
	for range 8000 {
		x, boxes := grow(random, random.Intn(6)), boxesOf(random, short)
		greater := slices.Clone(boxes)
		for i := range greater {
			if random.Intn(2) == 0 {
				greater[i].Range, _ = interval.Hull(greater[i].Range, within(random, short))
			}
		}
		b, e := Of(x, boxes)
		c, f := Of(x, greater)
		if f != api.OK || e != api.OK {
			continue
		}
		compared++
		if !interval.Inside(b, c) {
			t.Errorf("%v: %v for %v, but %v for %v", x, b, boxes, c, greater)
		}
		if trace, _ := Trace(x, greater); !Verify(x, boxes, trace) {
			t.Errorf("%v: the trace for %v does not prove the bounds for %v", x, greater, boxes)
		}
	}
	if compared < 4000 {
		t.Errorf("%d comparisons", compared)
	}
}
