package interval

import (
	"math"
	"math/big"
	"testing"

	"salchow/api"
)

const most = int64(api.MaxNum)

// frac returns a value of api.Frac, whether it is a fraction or not.
func frac(num, den int64) api.Frac { return api.Frac{Num: num, Den: den} }

// of returns the interval between two integers.
func of(lo, hi int64) api.Interval { return api.Interval{Lo: frac(lo, 1), Hi: frac(hi, 1)} }

// increasing are fractions, from the least to the greatest.
var increasing = []api.Frac{
	frac(-most, 1), frac(-most+1, 2), frac(-7, 1), frac(-1, 1), frac(-1, 3), frac(-1, most), frac(0, 1), frac(1, most), frac(1, most-1), frac(333333333333333333, most), frac(1, 3), frac(1, 1), frac(5, 2), frac(1000003, 1), frac(most-1, 1), frac(most, 1),
}

// invalid are values of api.Frac that are no fractions.
var invalid = []api.Frac{{}, frac(1, 0), frac(1, -2), frac(0, 2), frac(2, 4), frac(most+1, 1), frac(1, most+1), frac(math.MinInt64, 1), frac(math.MinInt64, math.MinInt64)}

// intervals returns all intervals between the fractions.
func intervals() []api.Interval {
	var list []api.Interval
	for i, lo := range increasing {
		for _, hi := range increasing[i:] {
			list = append(list, api.Interval{Lo: lo, Hi: hi})
		}
	}
	return list
}

// invalidIntervals returns values of api.Interval that are not valid.
func invalidIntervals() []api.Interval {
	list := []api.Interval{{}, of(1, 0), of(most, -most), {Lo: frac(1, 2), Hi: frac(1, 3)}, {Lo: frac(1, 3), Hi: frac(333333333333333333, most)}}
	for _, bad := range invalid {
		list = append(list, api.Interval{Lo: bad, Hi: bad}, api.Interval{Lo: bad, Hi: frac(most, 1)}, api.Interval{Lo: frac(-most, 1), Hi: bad})
	}
	return list
}

// exact returns a fraction as a number of math/big.
func exact(a api.Frac) *big.Rat { return big.NewRat(a.Num, a.Den) }

// within reports whether a number lies between the ends of an interval.
func within(a api.Interval, x *big.Rat) bool {
	return exact(a.Lo).Cmp(x) <= 0 && x.Cmp(exact(a.Hi)) <= 0
}

// part reports whether an interval is a part of another one, by the definition.
func part(a, b api.Interval) bool { return within(b, exact(a.Lo)) && within(b, exact(a.Hi)) }

func TestMakeAndValid(t *testing.T) {
	for i, lo := range increasing {
		for k, hi := range increasing {
			a, e := Make(lo, hi)
			want, wantE := api.Interval{Lo: lo, Hi: hi}, api.OK
			if valid := Valid(want); valid != (i <= k) {
				t.Errorf("Valid(%v): %v", want, valid)
			}
			if i > k {
				want, wantE = api.Interval{}, api.ErrArgument
			}
			if a != want || e != wantE {
				t.Errorf("Make(%v, %v): %v, %d", lo, hi, a, e)
			}
		}
	}
	for _, bad := range invalidIntervals() {
		if Valid(bad) {
			t.Errorf("Valid(%v)", bad)
		}
		if a, e := Make(bad.Lo, bad.Hi); a != (api.Interval{}) || e != api.ErrArgument {
			t.Errorf("Make(%v, %v): %v, %d", bad.Lo, bad.Hi, a, e)
		}
	}
}

func TestContains(t *testing.T) {
	for _, a := range intervals() {
		for _, f := range increasing {
			if got := Contains(a, f); got != within(a, exact(f)) {
				t.Errorf("Contains(%v, %v): %v", a, f, got)
			}
		}
		for _, bad := range invalid {
			if Contains(a, bad) {
				t.Errorf("Contains(%v, %v)", a, bad)
			}
		}
	}
	for _, bad := range invalidIntervals() {
		for _, f := range append(invalid, increasing...) {
			if Contains(bad, f) {
				t.Errorf("Contains(%v, %v)", bad, f)
			}
		}
	}
}

func TestInside(t *testing.T) {
	for _, a := range intervals() {
		for _, b := range intervals() {
			if got := Inside(a, b); got != part(a, b) {
				t.Errorf("Inside(%v, %v): %v", a, b, got)
			}
		}
		for _, bad := range invalidIntervals() {
			if Inside(a, bad) || Inside(bad, a) || Inside(bad, bad) {
				t.Errorf("Inside of %v and %v", a, bad)
			}
		}
	}
}

func TestHullIsTheLeastUpperBound(t *testing.T) {
	for _, a := range intervals() {
		for _, b := range intervals() {
			hull, e := Hull(a, b)
			if e != api.OK || !part(a, hull) || !part(b, hull) {
				t.Fatalf("Hull(%v, %v): %v, %d", a, b, hull, e)
			}
			for _, end := range []api.Frac{hull.Lo, hull.Hi} {
				if !within(a, exact(end)) && !within(b, exact(end)) {
					t.Errorf("Hull(%v, %v): %v: there is a lesser one", a, b, hull)
				}
			}
		}
	}
}

func TestIntersectIsTheGreatestLowerBound(t *testing.T) {
	for _, a := range intervals() {
		for _, b := range intervals() {
			both, e := Intersect(a, b)
			// If there is a number in both, the greater one of the lower ends is one.
			common := within(a, exact(b.Lo)) || within(b, exact(a.Lo))
			if !common {
				if e != api.ErrNone || both != (api.Interval{}) {
					t.Errorf("Intersect(%v, %v): %v, %d", a, b, both, e)
				}
				continue
			}
			if e != api.OK || !part(both, a) || !part(both, b) {
				t.Fatalf("Intersect(%v, %v): %v, %d", a, b, both, e)
			}
			for _, f := range increasing {
				if within(a, exact(f)) && within(b, exact(f)) && !within(both, exact(f)) {
					t.Errorf("Intersect(%v, %v): %v lacks %v", a, b, both, f)
				}
			}
		}
	}
}

func TestHullAndIntersectWithinBounds(t *testing.T) {
	list := []api.Interval{of(1, 2), of(0, 3), of(2, 4), of(3, 3), of(-1, 1), of(4, 5)}
	for _, a := range list {
		for _, b := range list {
			hull, _ := Hull(a, b)
			both, e := Intersect(a, b)
			for _, c := range list {
				if Inside(hull, c) != (Inside(a, c) && Inside(b, c)) {
					t.Errorf("Hull(%v, %v): %v, and %v", a, b, hull, c)
				}
				if (e == api.OK && Inside(c, both)) != (Inside(c, a) && Inside(c, b)) {
					t.Errorf("Intersect(%v, %v): %v, and %v", a, b, both, c)
				}
			}
		}
	}
}

func TestWidth(t *testing.T) {
	for _, a := range intervals() {
		want, wantE := bounded(new(big.Rat).Sub(exact(a.Hi), exact(a.Lo)))
		if w, e := Width(a); w != want || e != wantE {
			t.Errorf("Width(%v): %v, %d; want %v, %d", a, w, e, want, wantE)
		}
	}
	for _, bad := range invalidIntervals() {
		if w, e := Width(bad); w != (api.Frac{}) || e != api.ErrArgument {
			t.Errorf("Width(%v): %v, %d", bad, w, e)
		}
	}
	if w, e := Width(of(-most, most)); w != (api.Frac{}) || e != api.ErrRange {
		t.Errorf("Width: %v, %d", w, e)
	}
	if w, e := Width(of(-3, -3)); w != frac(0, 1) || e != api.OK {
		t.Errorf("Width: %v, %d", w, e)
	}
}
