package consistency

import (
	"math/big"
	"math/rand"
	"slices"
	"sort"
	"strconv"
	"strings"
	"testing"

	"salchow/api"
	"salchow/bounds"
	"salchow/formula"
	"salchow/fraction"
	"salchow/ruleset"
)

// greatest is the greatest number of fractions.
var greatest = big.NewInt(1_000_000_000_000_000_000)

// span is the range of a place; an end that is no fraction is nil.
type span struct{ lo, hi *big.Rat }

// isFraction reports whether a number is a fraction.
func isFraction(x *big.Rat) bool {
	return new(big.Int).Abs(x.Num()).Cmp(greatest) <= 0 && x.Denom().Cmp(greatest) <= 0
}

// thousandths returns the number of n thousandths.
func thousandths(n int64) *big.Rat { return big.NewRat(n, 1000) }

// rangesOf returns the ranges of the variables of a segment.
func rangesOf(r api.Ruleset, s api.Segment) map[string]span {
	value, credits, penalties := int64(0), s.Connections, int64(0)
	for _, x := range r.Catalog.Elements {
		value = max(value, x.Value)
	}
	for _, g := range r.Catalog.Groups {
		credits += g.Credit
	}
	for _, p := range s.Penalties {
		penalties += p.Value * int64(p.Most)
	}
	for _, require := range s.Requires {
		penalties += require.Deduct
	}
	of := map[string]span{"difficulty": {thousandths(0), thousandths(int64(s.Count)*value + credits)}, "penalties": {thousandths(0), thousandths(penalties)}}
	for _, p := range s.Panels {
		if p.Kind == api.PanelOverall {
			of[p.Name] = span{thousandths(p.Lo), thousandths(p.Hi)}
			continue
		}
		end := func(mark int64) *big.Rat {
			x := big.NewRat(30, 1)
			for _, factor := range []int64{value, mark, p.Scale} {
				x.Mul(x, thousandths(factor))
			}
			if !isFraction(x) {
				return nil
			}
			return x
		}
		of[p.Name] = span{end(min(p.Lo, 0)), end(max(p.Hi, 0))}
	}
	return of
}

// multipleOf returns the least common multiple of positive numbers, found by trying.
func multipleOf(list []int64) int64 {
	for multiple := int64(1); ; multiple++ {
		if !slices.ContainsFunc(list, func(n int64) bool { return multiple%n != 0 }) {
			return multiple
		}
	}
}

// denominatorsOf returns the denominators of the variables of a segment.
func denominatorsOf(s api.Segment) map[string]*big.Int {
	of := map[string]*big.Int{"difficulty": big.NewInt(1000), "penalties": big.NewInt(1000)}
	for _, p := range s.Panels {
		var kept []int64
		for n := p.Least; n <= p.Judges; n++ {
			if n > 2*p.Drop {
				kept = append(kept, int64(n-2*p.Drop))
			}
		}
		unit := int64(1000)
		if p.Kind == api.PanelElements {
			unit = 1_000_000_000
		}
		of[p.Name] = big.NewInt(unit * multipleOf(kept))
	}
	return of
}

// node is what the second reading knows about a node of a formula: its denominator, without a limit, and whether it is too great, and its bounds, or false if they are out of range.
type node struct {
	denominator *big.Int
	tooGreat    bool
	bounds      span
	ok          bool
}

// evaluator computes the nodes of a formula.
type evaluator struct {
	ranges       map[string]span
	denominators map[string]*big.Int
	nodes        []node
}

// add adds the nodes of a formula and returns the first one.
func (e *evaluator) add(x api.Expr) node {
	place := len(e.nodes)
	e.nodes = append(e.nodes, node{})
	var kids []node
	for _, kid := range x.Kids {
		kids = append(kids, e.add(kid))
	}
	n := node{ok: true}
	for _, kid := range kids {
		n.tooGreat, n.ok = n.tooGreat || kid.tooGreat, n.ok && kid.ok
	}
	n.denominator = e.denominator(x, kids)
	n.tooGreat = n.tooGreat || n.denominator.Cmp(greatest) > 0
	if n.ok {
		n.bounds, n.ok = e.bounds(x, kids)
	}
	e.nodes[place] = n
	return n
}

// denominator returns the denominator of a node.
func (e *evaluator) denominator(x api.Expr, kids []node) *big.Int {
	switch x.Op {
	case api.ExprConst:
		return thousandths(x.N).Denom()
	case api.ExprVar:
		return e.denominators[x.Name]
	case api.ExprNeg:
		return kids[0].denominator
	case api.ExprMul:
		return new(big.Int).Mul(kids[0].denominator, kids[1].denominator)
	case api.ExprDiv:
		return new(big.Int).Mul(kids[0].denominator, thousandths(x.Kids[1].N).Num())
	}
	a, b := kids[0].denominator, kids[1].denominator
	both := new(big.Int).Mul(a, b)
	return both.Div(both, new(big.Int).GCD(nil, nil, a, b))
}

// bounds returns the bounds of a node, or false if they are out of range.
func (e *evaluator) bounds(x api.Expr, kids []node) (span, bool) {
	var results []*big.Rat
	combine := func(operate func(z, a, b *big.Rat) *big.Rat) {
		for _, a := range []*big.Rat{kids[0].bounds.lo, kids[0].bounds.hi} {
			for _, b := range []*big.Rat{kids[1].bounds.lo, kids[1].bounds.hi} {
				results = append(results, operate(new(big.Rat), a, b))
			}
		}
	}
	switch x.Op {
	case api.ExprConst:
		return span{thousandths(x.N), thousandths(x.N)}, true
	case api.ExprVar:
		return e.ranges[x.Name], true
	case api.ExprNeg:
		return span{new(big.Rat).Neg(kids[0].bounds.hi), new(big.Rat).Neg(kids[0].bounds.lo)}, true
	case api.ExprAdd:
		results = append(results, new(big.Rat).Add(kids[0].bounds.lo, kids[1].bounds.lo), new(big.Rat).Add(kids[0].bounds.hi, kids[1].bounds.hi))
	case api.ExprSub:
		results = append(results, new(big.Rat).Sub(kids[0].bounds.lo, kids[1].bounds.hi), new(big.Rat).Sub(kids[0].bounds.hi, kids[1].bounds.lo))
	case api.ExprMul:
		combine((*big.Rat).Mul)
	case api.ExprDiv:
		combine((*big.Rat).Quo)
	case api.ExprMin, api.ExprMax:
		better := 1
		if x.Op == api.ExprMin {
			better = -1
		}
		pick := func(a, b *big.Rat) *big.Rat {
			if a.Cmp(b) == better {
				return a
			}
			return b
		}
		return span{pick(kids[0].bounds.lo, kids[1].bounds.lo), pick(kids[0].bounds.hi, kids[1].bounds.hi)}, true
	}
	for _, result := range results {
		if !isFraction(result) {
			return span{}, false
		}
	}
	sort.Slice(results, func(i, j int) bool { return results[i].Cmp(results[j]) < 0 })
	return span{results[0], results[len(results)-1]}, true
}

// isTooLong reports whether an end of a span, in units of a denominator, is beyond a limit.
func isTooLong(within span, unit, limit *big.Int) bool {
	for _, end := range []*big.Rat{within.lo, within.hi} {
		if end == nil {
			continue
		}
		product := new(big.Rat).Mul(new(big.Rat).Abs(end), new(big.Rat).SetInt(unit))
		if product.Cmp(new(big.Rat).SetInt(limit)) > 0 {
			return true
		}
	}
	return false
}

// overflowOf returns the place of the overflow of a segment, and whether there is one, by the definition.
func overflowOf(r api.Ruleset, s api.Segment) (int64, bool) {
	ranges, denominators := rangesOf(r, s), denominatorsOf(s)
	var names []string
	noFraction := false
	for name, within := range ranges {
		names = append(names, name)
		noFraction = noFraction || within.lo == nil || within.hi == nil
	}
	sort.Strings(names)
	for i, name := range names {
		if isTooLong(ranges[name], denominators[name], greatest) {
			return int64(i), true
		}
	}
	if noFraction {
		return int64(len(names)), true
	}
	e := &evaluator{ranges: ranges, denominators: denominators}
	root := e.add(s.Score)
	for i, n := range e.nodes {
		if !n.ok || n.tooGreat || isTooLong(n.bounds, n.denominator, greatest) {
			return int64(len(names) + i), true
		}
	}
	unit := new(big.Int).Exp(big.NewInt(10), big.NewInt(int64(r.Digits)), nil)
	return -1, isTooLong(root.bounds, unit, new(big.Int).Sub(greatest, big.NewInt(1)))
}

// mostOf returns how many elements of a group can count in a segment, by the definition.
func mostOf(r api.Ruleset, s api.Segment, group string) int {
	worth, limit := 0, 0
	for _, x := range r.Catalog.Elements {
		if x.Group == group && x.Value > 0 {
			worth++
		}
	}
	for _, g := range r.Catalog.Groups {
		if g.Name == group {
			limit = g.Limit
		}
	}
	return min(s.Count, limit, s.Repeat*worth)
}

// findingsOf returns the findings about a ruleset, by the definition.
func findingsOf(r api.Ruleset) []Finding {
	var list []Finding
	members, classes, value := map[string]int{}, map[string]bool{}, map[string]int64{}
	for _, x := range r.Catalog.Elements {
		members[x.Group]++
		classes[x.Class] = true
		value[x.Code] = x.Value
	}
	for _, g := range r.Catalog.Groups {
		reached := 0
		for _, s := range r.Segments {
			reached = max(reached, min(s.Count, s.Repeat*members[g.Name]))
		}
		if reached < g.Limit {
			list = append(list, Finding{3, "", g.Name, int64(g.Limit)})
		}
		if members[g.Name] == 0 && g.Credit != 0 {
			list = append(list, Finding{4, "", g.Name, g.Credit})
		}
	}
	for _, class := range r.Catalog.Classes {
		if !classes[class] {
			list = append(list, Finding{5, "", class, 0})
		}
	}
	for _, connect := range r.Catalog.Connects {
		if !(classes[connect.First] && classes[connect.Second]) {
			list = append(list, Finding{6, "", connect.First + "+" + connect.Second, connect.Value})
		}
	}
	for _, x := range r.Catalog.Elements {
		if x.Lower != "" && value[x.Lower] == x.Value {
			list = append(list, Finding{7, "", x.Code, x.Value})
		}
	}
	for _, s := range r.Segments {
		list = append(list, findingsOfSegment(r, s)...)
	}
	sort.Slice(list, func(i, j int) bool {
		a, b := list[i], list[j]
		switch {
		case a.Kind != b.Kind:
			return a.Kind < b.Kind
		case a.Segment != b.Segment:
			return a.Segment < b.Segment
		case a.Name != b.Name:
			return a.Name < b.Name
		}
		return a.N < b.N
	})
	return list
}

// findingsOfSegment returns the findings about a segment, by the definition.
func findingsOfSegment(r api.Ruleset, s api.Segment) []Finding {
	var list []Finding
	sum := 0
	for _, require := range s.Requires {
		sum += require.Least
		if n := mostOf(r, s, require.Group); n < require.Least {
			list = append(list, Finding{1, s.Name, require.Group, int64(n)})
		}
	}
	if len(list) == 0 && sum > s.Count {
		list = append(list, Finding{2, s.Name, "", int64(sum)})
	}
	if place, overflows := overflowOf(r, s); overflows {
		list = append(list, Finding{8, s.Name, "", place})
	}
	for _, p := range s.Panels {
		if !slices.Contains(formula.Variables(s.Score), p.Name) {
			list = append(list, Finding{9, s.Name, p.Name, 0})
		}
	}
	return list
}

// randomFormula returns the text of a formula of about this size.
func randomFormula(random *rand.Rand, size int, names []string) string {
	pick := func(list ...string) string { return list[random.Intn(len(list))] }
	if size <= 1 {
		if random.Intn(3) == 0 {
			return pick("0", "1", "2", "0.5", "7", "0.001", "1000000", "999.999", "1.4", "1000")
		}
		return pick(names...)
	}
	left := 1 + random.Intn(size-1)
	a, b := randomFormula(random, left, names), randomFormula(random, size-left, names)
	switch random.Intn(10) {
	case 0:
		return "-(" + a + ")"
	case 1, 2:
		return pick("min", "max") + "(" + a + ", " + b + ")"
	case 3, 4:
		return "(" + a + ") / " + pick("2", "3", "0.5", "7", "0.007", "1000", "0.999")
	case 5, 6:
		return "(" + a + ") * (" + b + ")"
	default:
		return "(" + a + ") " + pick("+", "-") + " (" + b + ")"
	}
}

// randomSegment returns the source of a segment.
func randomSegment(random *rand.Rand, name string, groups int) string {
	pick := func(list ...string) string { return list[random.Intn(len(list))] }
	source := "segment " + name + " { count " + pick("1", "2", "3", "4", "7") + "; repeat " + pick("1", "1", "2", "3") + "; connections " + pick("0", "1.5", "1000") + "; "
	for i, group := range []string{"jump", "lift", "spin"}[:groups] {
		if random.Intn(2+i) == 0 {
			source += "require " + group + " least " + pick("1", "1", "2", "2", "3") + " deduct " + pick("0", "1", "1000") + "; "
		}
	}
	names := []string{"difficulty", "difficulty", "penalties"}
	for _, panel := range []string{"art", "goe", "zeal"} {
		if random.Intn(2) == 0 {
			continue
		}
		judges := 1 + random.Intn(9)
		number := strconv.Itoa
		seats := " judges " + number(judges) + " least " + number(1+random.Intn(judges)) + " drop " + number(random.Intn(4)) + " tolerance 1"
		lo, hi := pick("0", "- 5", "- 1000", "- 999.999"), pick("0", "5", "10", "1000", "999.999")
		if random.Intn(2) == 0 {
			source += "panel " + panel + " overall " + lo + " to " + hi + " step 0.25" + seats + "; "
		} else {
			source += "panel " + panel + " elements " + lo + " to " + hi + " step 1" + seats + " scale " + pick("0", "0.1", "1", "10", "1000", "999.999") + "; "
		}
		names = append(names, panel)
	}
	if random.Intn(2) == 0 {
		source += "penalty fall value " + pick("0", "1", "1000") + " most 9; "
	}
	return source + "score " + randomFormula(random, 1+random.Intn(9), names) + "; } "
}

// randomRules returns a random ruleset.
func randomRules(t *testing.T, random *rand.Rand) api.Ruleset {
	t.Helper()
	pick := func(list ...string) string { return list[random.Intn(len(list))] }
	source := "discipline figure season 1; publish " + pick("0", "1", "2", "3") + " down; rank exact; "
	groups := 1 + random.Intn(3)
	for _, group := range []string{"jump", "lift", "spin"}[:groups] {
		source += "group " + group + " limit " + pick("1", "2", "3", "4", "9") + " credit " + pick("0", "0.5", "1000") + "; "
	}
	classes := random.Intn(4)
	for _, class := range []string{"a", "b", "c"}[:classes] {
		source += "class " + class + "; "
	}
	value := pick("0", "1", "8", "1000", "999.999")
	for i := range random.Intn(9) {
		source += "element E" + strconv.Itoa(i) + " group " + []string{"jump", "lift", "spin"}[random.Intn(groups)] + " value " + pick("0", "1", "2", value)
		if classes > 0 && random.Intn(2) == 0 {
			source += " class " + []string{"a", "b", "c"}[random.Intn(classes)]
		}
		if i > 0 && random.Intn(2) == 0 {
			// The value of a lower element is not greater.
			source += "; element F" + strconv.Itoa(i) + " group jump value 1000 lower E" + strconv.Itoa(random.Intn(i))
		} else if random.Intn(3) == 0 {
			source += "; element F" + strconv.Itoa(i) + " group jump value " + pick("0", "0.5") + "; element G" + strconv.Itoa(i) + " group jump value 0.5 lower F" + strconv.Itoa(i)
		}
		source += "; "
	}
	for _, first := range []string{"a", "b", "c"}[:classes] {
		for _, second := range []string{"a", "b", "c"}[:classes] {
			if random.Intn(3) == 0 {
				source += "connect " + first + " " + second + " value " + pick("0", "1", "0.5") + "; "
			}
		}
	}
	for _, name := range []string{"beam", "free", "short"}[:1+random.Intn(3)] {
		source += randomSegment(random, name, groups)
	}
	return loaded(t, source)
}

func TestCheckOfRandomRules(t *testing.T) {
	random := rand.New(rand.NewSource(90))
	kinds, places := map[int]int{}, map[string]int{}
	for range 5000 {
		r := randomRules(t, random)
		findings, e := Check(r)
		want := findingsOf(r)
		isOverflow := func(f Finding) bool { return f.Kind == Overflow }
		if e != api.OK || !slices.Equal(findings, want) || Clean(r) == slices.ContainsFunc(want, isOverflow) {
			source, _ := ruleset.Source(r)
			t.Fatalf("Check of %s: %v, %d; want %v", source, findings, e, want)
		}
		for _, f := range findings {
			kinds[f.Kind]++
			if f.Kind == Overflow {
				places[placeKind(t, r, f)]++
			}
		}
		if Clean(r) {
			kinds[0]++
		}
	}
	for kind := range 10 {
		if kinds[kind] < 100 {
			t.Errorf("kinds: %v", kinds)
		}
	}
	for _, place := range []string{"box", "root", "node"} {
		if places[place] < 20 {
			t.Errorf("places: %v", places)
		}
	}
}

// placeKind returns what the place of an overflow is.
func placeKind(t *testing.T, r api.Ruleset, f Finding) string {
	t.Helper()
	boxes, e := bounds.Boxes(r, f.Segment)
	switch {
	case e != api.OK:
		t.Fatalf("Boxes: %d", e)
	case f.N < 0:
		return "score"
	case f.N < int64(len(boxes)):
		return "box"
	case f.N == int64(len(boxes)):
		return "root"
	}
	return "node"
}

func TestFulfilOfRandomRules(t *testing.T) {
	random := rand.New(rand.NewSource(91))
	found := map[api.Errno]int{}
	for range 3000 {
		r := randomRules(t, random)
		findings, _ := Check(r)
		for _, s := range r.Segments {
			for _, g := range r.Catalog.Groups {
				if n, e := Most(r, s.Name, g.Name); n != mostOf(r, s, g.Name) || e != api.OK {
					t.Errorf("Most of %s, %s: %d, %d", s.Name, g.Name, n, e)
				}
			}
			witness, e := Fulfil(r, s.Name)
			found[e]++
			says := slices.ContainsFunc(findings, func(f Finding) bool { return f.Kind <= Together && f.Segment == s.Name })
			if says != (e == api.ErrNone) || !says && e != api.OK || canFulfil(r, s) == says {
				t.Errorf("Fulfil of %v: %q, %d; findings %v", r, witness, e, findings)
			}
			if e == api.OK {
				checkWitness(t, r, s, witness)
			} else if len(witness) != 0 {
				t.Errorf("Fulfil of %s: %q, %d", s.Name, witness, e)
			}
		}
	}
	if found[api.OK] < 500 || found[api.ErrNone] < 500 {
		t.Errorf("%v", found)
	}
}

// canFulfil reports whether the requirements can be fulfilled by taking elements one by one, as long as nothing is in the way.
func canFulfil(r api.Ruleset, s api.Segment) bool {
	left := s.Count
	for _, require := range s.Requires {
		taken, limit := 0, 0
		for _, g := range r.Catalog.Groups {
			if g.Name == require.Group {
				limit = g.Limit
			}
		}
		for _, x := range r.Catalog.Elements {
			for range s.Repeat {
				if x.Group == require.Group && x.Value > 0 && taken < require.Least && taken < limit && left > 0 {
					taken, left = taken+1, left-1
				}
			}
		}
		if taken < require.Least {
			return false
		}
	}
	return true
}

// checkWitness checks that a witness respects all limits, fulfils all requirements, and is the first one.
func checkWitness(t *testing.T, r api.Ruleset, s api.Segment, witness []string) {
	t.Helper()
	codes, groups := map[string]int{}, map[string][]string{}
	for _, code := range witness {
		codes[code]++
		for _, x := range r.Catalog.Elements {
			if x.Code == code {
				groups[x.Group] = append(groups[x.Group], code)
			}
			if x.Code == code && x.Value == 0 {
				t.Errorf("%s has no value: %q", code, witness)
			}
		}
		if codes[code] > s.Repeat {
			t.Errorf("%s is there too often: %q", code, witness)
		}
	}
	var all []string
	for _, require := range s.Requires {
		list := groups[require.Group]
		if len(list) < require.Least || !slices.IsSorted(list) {
			t.Errorf("%v is not fulfilled by %q", require, witness)
		}
		all = append(all, list...)
		// No code is left out before the last one.
		for _, x := range r.Catalog.Elements {
			if x.Group == require.Group && x.Value > 0 && x.Code < list[len(list)-1] && codes[x.Code] != s.Repeat {
				t.Errorf("%s lacks in %q", x.Code, witness)
			}
		}
	}
	for _, g := range r.Catalog.Groups {
		if len(groups[g.Name]) > g.Limit {
			t.Errorf("too many of %s: %q", g.Name, witness)
		}
	}
	if len(witness) > s.Count || !slices.Equal(all, witness) {
		t.Errorf("%q is not a witness of %v", witness, s)
	}
}

// randomValue returns a number within a box, often an end, that a variable can have.
func randomValue(random *rand.Rand, box bounds.Box, p api.Panel, kind int) (api.Frac, bool) {
	den := int64(1000)
	if kind != 0 {
		kept := int64(p.Least + random.Intn(p.Judges-p.Least+1) - 2*p.Drop)
		if kept < 1 {
			return api.Frac{}, false
		}
		den *= kept
	}
	if kind == api.PanelElements {
		den *= 1_000_000
	}
	switch random.Intn(4) {
	case 0:
		return box.Range.Lo, true
	case 1:
		return box.Range.Hi, true
	}
	// A part of the width, rounded down to the grid of the denominator.
	lo, hi := new(big.Rat).SetFrac64(box.Range.Lo.Num, box.Range.Lo.Den), new(big.Rat).SetFrac64(box.Range.Hi.Num, box.Range.Hi.Den)
	part := new(big.Rat).Mul(new(big.Rat).Sub(hi, lo), big.NewRat(random.Int63n(1_000_001), 1_000_000))
	units := new(big.Rat).Mul(part, new(big.Rat).SetInt64(den))
	whole := new(big.Int).Div(units.Num(), units.Denom())
	value := new(big.Rat).Add(lo, new(big.Rat).SetFrac(whole, big.NewInt(den)))
	return api.Frac{Num: value.Num().Int64(), Den: value.Denom().Int64()}, true
}

func TestScoresOfCleanRules(t *testing.T) {
	random := rand.New(rand.NewSource(92))
	tried := 0
	for range 3000 {
		r := randomRules(t, random)
		if !Clean(r) {
			continue
		}
		for _, s := range r.Segments {
			boxes, _ := bounds.Boxes(r, s.Name)
			for range 10 {
				var values []api.Named
				all := true
				for _, box := range boxes {
					var panel api.Panel
					for _, p := range s.Panels {
						if p.Name == box.Name {
							panel = p
						}
					}
					value, ok := randomValue(random, box, panel, panel.Kind)
					all = all && ok
					values = append(values, api.Named{Name: box.Name, Value: value})
				}
				if !all {
					continue
				}
				tried++
				score, e := formula.Eval(s.Score, values)
				if _, unpublished := fraction.Round(score, r.Digits, r.Mode); e != api.OK || unpublished != api.OK {
					text, _ := formula.Print(s.Score)
					t.Errorf("%s has no score for %v: %d, %d", text, values, e, unpublished)
				}
			}
		}
	}
	if tried < 10000 {
		t.Errorf("only %d performances", tried)
	}
}

func TestNodesOfDeepFormulas(t *testing.T) {
	// The largest formulas: 128 operands in a row, and 32 brackets within each other.
	row := strings.Repeat("difficulty + ", 127) + "difficulty"
	nest := strings.Repeat("max(0, ", 32) + "difficulty" + strings.Repeat(")", 32)
	for _, score := range []string{row, nest, "-" + nest[len("max(0, "):len(nest)-1] + " - 1"} {
		r := scored{score: score}.load(t)
		if findings, e := Check(r); e != api.OK || !slices.Equal(findings, findingsOf(r)) || !Clean(r) {
			t.Errorf("Check with %s: %v, %d", score, findings, e)
		}
	}
}
