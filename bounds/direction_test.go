package bounds

import (
	"math/rand"
	"slices"
	"testing"

	"salchow/api"
	"salchow/formula"
	"salchow/fraction"
	"salchow/interval"
)

// turned has the reversed directions.
var turned = map[int]int{Constant: Constant, Up: Down, Down: Up, Unknown: Unknown}

// joined returns the union of directions.
func joined(list ...int) int {
	varying := slices.DeleteFunc(slices.Clone(list), func(d int) bool { return d == Constant })
	slices.Sort(varying)
	switch varying = slices.Compact(varying); len(varying) {
	case 0:
		return Constant
	case 1:
		return varying[0]
	}
	return Unknown
}

// directionOf returns the direction of a formula whose bounds are in range, by the definition.
func directionOf(x api.Expr, boxes []Box, name string) int {
	var kids []int
	var bounds []api.Interval
	for _, kid := range x.Kids {
		list, _ := boundsOf(kid, boxes)
		kids, bounds = append(kids, directionOf(kid, boxes, name)), append(bounds, list[0])
	}
	switch x.Op {
	case api.ExprVar:
		if x.Name == name {
			return Up
		}
	case api.ExprNeg:
		return turned[kids[0]]
	case api.ExprAdd, api.ExprMin, api.ExprMax:
		return joined(kids...)
	case api.ExprSub:
		return joined(kids[0], turned[kids[1]])
	case api.ExprDiv:
		return kids[0]
	case api.ExprMul:
		for i := range kids {
			switch other := bounds[1-i]; {
			case kids[i] == Constant:
			case exact(other.Lo).Sign() >= 0:
			case exact(other.Hi).Sign() <= 0:
				kids[i] = turned[kids[i]]
			default:
				kids[i] = Unknown
			}
		}
		return joined(kids...)
	}
	return Constant
}

// cornersOf returns the values at the corners for known directions, by the definition.
func cornersOf(boxes []Box, directions []int) (least, greatest []api.Named) {
	for i, b := range boxes {
		low := map[int]api.Frac{Constant: b.Range.Lo, Up: b.Range.Lo, Down: b.Range.Hi}[directions[i]]
		high := map[int]api.Frac{Constant: b.Range.Lo, Up: b.Range.Hi, Down: b.Range.Lo}[directions[i]]
		least, greatest = append(least, api.Named{Name: b.Name, Value: low}), append(greatest, api.Named{Name: b.Name, Value: high})
	}
	return least, greatest
}

func TestExamplesOfDirections(t *testing.T) {
	boxes := []Box{{"a", span(-1, 1)}, {"b", span(0, 2)}, {"c", span(-4, -2)}, {"d", span(0, 0)}, {"e", span(-2, 0)}}
	for text, want := range map[string][]int{
		"1": {0, 0, 0, 0, 0}, "a": {Up, 0, 0, 0, 0}, "-a": {Down, 0, 0, 0, 0}, "--a": {Up, 0, 0, 0, 0}, "b - c": {0, Up, Down, 0, 0}, "c - (b - a)": {Up, Down, Up, 0, 0},
		"a * b": {Up, Unknown, 0, 0, 0}, "b * a": {Up, Unknown, 0, 0, 0}, "a - a": {Unknown, 0, 0, 0, 0}, "a + a": {Up, 0, 0, 0, 0}, "a + -a": {Unknown, 0, 0, 0, 0}, "a - a - a": {Unknown, 0, 0, 0, 0}, "a - a + b": {Unknown, Up, 0, 0, 0},
		"min(a, b)": {Up, Up, 0, 0, 0}, "max(a, -b)": {Up, Down, 0, 0, 0}, "min(a, 1 - a)": {Unknown, 0, 0, 0, 0}, "-max(a, b) / 3": {Down, Down, 0, 0, 0},
		"b * c": {0, Down, Up, 0, 0}, "c * c": {0, 0, Down, 0, 0}, "b * b": {0, Up, 0, 0, 0}, "a * a": {Unknown, 0, 0, 0, 0}, "a * 0": {Up, 0, 0, 0, 0}, "a * d": {Up, 0, 0, Unknown, 0}, "e * c": {0, 0, Down, 0, Down}, "a * e": {Down, 0, 0, 0, Unknown}, "(a - a) * b": {Unknown, Unknown, 0, 0, 0}, "(a - a) * 2": {Unknown, 0, 0, 0, 0}, "-(2 * 3) * b": {0, Down, 0, 0, 0}, "(1 - 2) * (a - a)": {Unknown, 0, 0, 0, 0}, "(b - 5) * (c + 1)": {0, Down, Down, 0, 0}, "2 * a": {Up, 0, 0, 0, 0}, "(b - 1) * 2 * 3": {0, Up, 0, 0, 0},
	} {
		if got, e := Directions(formulaOf(t, text), boxes); !slices.Equal(got, want) || e != api.OK {
			t.Errorf("Directions of %s: %v, %d; want %v", text, got, e, want)
		}
	}
	first := []Box{{"art", span(-1, 5)}, {"difficulty", span(0, 10)}, {"penalties", span(0, 3)}}
	x := formulaOf(t, "difficulty - penalties + max(art, 0)")
	if got, e := Directions(x, first); !slices.Equal(got, []int{Up, Up, Down}) || e != api.OK {
		t.Errorf("%v, %d", got, e)
	}
	wantLeast := []api.Named{{Name: "art", Value: frac(-1, 1)}, {Name: "difficulty", Value: frac(0, 1)}, {Name: "penalties", Value: frac(3, 1)}}
	wantGreatest := []api.Named{{Name: "art", Value: frac(5, 1)}, {Name: "difficulty", Value: frac(10, 1)}, {Name: "penalties", Value: frac(0, 1)}}
	if least, greatest, e := Corners(x, first); !slices.Equal(least, wantLeast) || !slices.Equal(greatest, wantGreatest) || e != api.OK {
		t.Errorf("%v, %v, %d", least, greatest, e)
	}
	if d, e := Directions(formulaOf(t, "1"), nil); len(d) != 0 || e != api.OK {
		t.Errorf("Directions without boxes: %v, %d", d, e)
	}
	if least, greatest, e := Corners(formulaOf(t, "1"), nil); len(least) != 0 || len(greatest) != 0 || e != api.OK {
		t.Errorf("Corners without boxes: %v, %v, %d", least, greatest, e)
	}
}

func TestDirectionsAndCornersOfRandomFormulas(t *testing.T) {
	random := rand.New(rand.NewSource(53))
	found := map[int]int{}
	corners := map[api.Errno]int{}
	for range 8000 {
		x, boxes := grow(random, random.Intn(6)), boxesOf(random, short)
		if _, ok := boundsOf(x, boxes); !ok {
			continue
		}
		var want []int
		for _, b := range boxes {
			want = append(want, directionOf(x, boxes, b.Name))
			found[want[len(want)-1]]++
		}
		tree, before := copied(x), slices.Clone(boxes)
		if got, e := Directions(x, boxes); !slices.Equal(got, want) || e != api.OK {
			t.Errorf("Directions(%v, %v): %v, %d; want %v", x, boxes, got, e, want)
		}
		wantLeast, wantGreatest := cornersOf(boxes, want)
		wantE := api.OK
		if slices.Contains(want, Unknown) {
			wantLeast, wantGreatest, wantE = nil, nil, api.ErrNone
		}
		corners[wantE]++
		if least, greatest, e := Corners(x, boxes); !slices.Equal(least, wantLeast) || !slices.Equal(greatest, wantGreatest) || e != wantE {
			t.Errorf("Corners(%v, %v): %v, %v, %d; want %v, %v, %d", x, boxes, least, greatest, e, wantLeast, wantGreatest, wantE)
		}
		if !formula.Equal(x, tree) || !slices.Equal(boxes, before) {
			t.Errorf("%v or %v has changed", x, boxes)
		}
	}
	if found[Constant] < 5000 || found[Up] < 3000 || found[Down] < 2000 || found[Unknown] < 2000 || corners[api.OK] < 1000 || corners[api.ErrNone] < 1000 {
		t.Errorf("%v, %v", found, corners)
	}
}

// pointsOf returns random values of the variables of boxes, ends and numbers between them.
func pointsOf(random *rand.Rand, boxes []Box) []api.Named {
	var values []api.Named
	for _, b := range boxes {
		v := b.Range.Lo
		switch random.Intn(3) {
		case 0:
			v = b.Range.Hi
		case 1:
			v, _ = fraction.Mean([]api.Frac{b.Range.Lo, b.Range.Hi, short[random.Intn(len(short))]})
		}
		if !interval.Contains(b.Range, v) {
			v = b.Range.Lo
		}
		values = append(values, api.Named{Name: b.Name, Value: v})
	}
	return values
}

// raised returns values of which the one at an index is a greater number of its box.
func raised(random *rand.Rand, values []api.Named, boxes []Box, i int) []api.Named {
	values = slices.Clone(values)
	values[i].Value = boxes[i].Range.Hi
	if middle, _ := fraction.Mean([]api.Frac{values[i].Value, boxes[i].Range.Hi}); random.Intn(2) == 0 {
		values[i].Value = middle
	}
	return values
}

// checkPoint checks the value at a point against the bounds and the values at the corners, and the directions from there. It reports whether there is a value.
func checkPoint(t *testing.T, random *rand.Rand, x api.Expr, boxes []Box) bool {
	point := pointsOf(random, boxes)
	bounds, e := Of(x, boxes)
	value, f := formula.Eval(x, point)
	if e != api.OK || f != api.OK {
		return false
	}
	if !interval.Contains(bounds, value) {
		t.Errorf("%v: the value %v for %v is not within %v", x, value, point, bounds)
	}
	directions, _ := Directions(x, boxes)
	for i, d := range directions {
		higher, f := formula.Eval(x, raised(random, point, boxes, i))
		change := fraction.Cmp(higher, value)
		if f == api.OK && (d == Constant && change != 0 || d == Up && change < 0 || d == Down && change > 0) {
			t.Errorf("%v: the direction in %s is %d, but %v becomes %v", x, boxes[i].Name, d, value, higher)
		}
	}
	least, greatest, e := Corners(x, boxes)
	if e != api.OK {
		return true
	}
	low, e := formula.Eval(x, least)
	high, f := formula.Eval(x, greatest)
	if e != api.OK || f != api.OK || fraction.Cmp(low, value) > 0 || fraction.Cmp(value, high) > 0 {
		t.Errorf("%v: the value %v for %v is not between %v and %v", x, value, point, low, high)
	}
	return true
}

func TestSoundness(t *testing.T) {
	random := rand.New(rand.NewSource(54))
	checked := 0
	for range 4000 {
		x, boxes := grow(random, random.Intn(5)), boxesOf(random, short)
		for range 10 {
			if checkPoint(t, random, x, boxes) {
				checked++
			}
		}
	}
	if checked < 20000 {
		t.Errorf("%d points", checked)
	}
}

func TestLongListsOfBoxes(t *testing.T) {
	var boxes []Box
	for i := range 100000 {
		boxes = append(boxes, Box{"a" + string(rune(0x10000+i)), span(0, 1)})
	}
	boxes = append([]Box{{"a", span(1, 2)}}, boxes...)
	x := formulaOf(t, "-a * 2")
	d, e := Directions(x, boxes)
	if e != api.OK || len(d) != len(boxes) || d[0] != Down || slices.Max(d[1:]) != Constant {
		t.Errorf("Directions: %d", e)
	}
}
