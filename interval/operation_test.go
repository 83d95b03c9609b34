package interval

import (
	"math/big"
	"testing"

	"salchow/api"
)

// bounded returns the fraction of a number, or ErrRange.
func bounded(r *big.Rat) (api.Frac, api.Errno) {
	limit := big.NewInt(most)
	if r.Num().CmpAbs(limit) > 0 || r.Denom().Cmp(limit) > 0 {
		return api.Frac{}, api.ErrRange
	}
	return frac(r.Num().Int64(), r.Denom().Int64()), api.OK
}

// operation is a function of two intervals, and the same one of two numbers.
type operation struct {
	name  string
	f     func(a, b api.Interval) (api.Interval, api.Errno)
	exact func(z, a, b *big.Rat) *big.Rat
}

// least and highest return the lesser and the greater one of two numbers, in the form of the methods of math/big.
func least(z, a, b *big.Rat) *big.Rat {
	if a.Cmp(b) < 0 {
		return z.Set(a)
	}
	return z.Set(b)
}

func highest(z, a, b *big.Rat) *big.Rat {
	if a.Cmp(b) > 0 {
		return z.Set(a)
	}
	return z.Set(b)
}

// combinations are the operations of two intervals.
var combinations = []operation{
	{"Add", Add, (*big.Rat).Add}, {"Sub", Sub, (*big.Rat).Sub}, {"Mul", Mul, (*big.Rat).Mul}, {"Min", Min, least}, {"Max", Max, highest},
}

// numeric are the operations of an interval and a number, as operations of two intervals of which the second one is a single number.
var numeric = []operation{
	{"Scale", func(a, b api.Interval) (api.Interval, api.Errno) { return Scale(a, b.Lo) }, (*big.Rat).Mul},
	{"Div", func(a, b api.Interval) (api.Interval, api.Errno) { return Div(a, b.Lo) }, (*big.Rat).Quo},
}

// results returns the results of an operation for all ends of two intervals.
func (o operation) results(a, b api.Interval) []*big.Rat {
	var list []*big.Rat
	for _, x := range []api.Frac{a.Lo, a.Hi} {
		for _, y := range []api.Frac{b.Lo, b.Hi} {
			list = append(list, o.exact(new(big.Rat), exact(x), exact(y)))
		}
	}
	return list
}

// extension returns the interval from the least to the greatest result of an operation, or ErrRange if it names a number that is out of range.
func (o operation) extension(a, b api.Interval) (api.Interval, api.Errno) {
	list := o.results(a, b)
	lo, hi := list[0], list[0]
	for _, r := range list {
		lo, hi = least(new(big.Rat), lo, r), highest(new(big.Rat), hi, r)
		if _, e := bounded(r); e != api.OK && o.name != "Add" && o.name != "Sub" {
			return api.Interval{}, e
		}
	}
	// Sums and differences of other ends than these may be out of range.
	low, e := bounded(lo)
	high, f := bounded(hi)
	if e != api.OK || f != api.OK {
		return api.Interval{}, api.ErrRange
	}
	return api.Interval{Lo: low, Hi: high}, api.OK
}

func (o operation) check(t *testing.T, a, b api.Interval) api.Errno {
	t.Helper()
	want, wantE := o.extension(a, b)
	got, e := o.f(a, b)
	if got != want || e != wantE {
		t.Fatalf("%s(%v, %v): %v, %d; want %v, %d", o.name, a, b, got, e, want, wantE)
	}
	return e
}

func TestOperationsAreExtensions(t *testing.T) {
	list := intervals()
	for _, o := range combinations {
		found := map[api.Errno]int{}
		for _, a := range list {
			for _, b := range list {
				found[o.check(t, a, b)]++
			}
		}
		never := o.name == "Min" || o.name == "Max"
		if found[api.OK] < 1000 || !never && found[api.ErrRange] < 1000 || never && found[api.ErrRange] > 0 {
			t.Errorf("%s: %v", o.name, found)
		}
	}
}

func TestScaleAndDiv(t *testing.T) {
	for _, o := range numeric {
		found := map[api.Errno]int{}
		for _, a := range intervals() {
			for _, f := range increasing {
				if o.name == "Scale" || f.Num != 0 {
					found[o.check(t, a, api.Interval{Lo: f, Hi: f})]++
				}
			}
		}
		if found[api.OK] < 100 || found[api.ErrRange] < 100 {
			t.Errorf("%s: %v", o.name, found)
		}
	}
}

func TestNeg(t *testing.T) {
	for _, a := range intervals() {
		want := api.Interval{Lo: frac(-a.Hi.Num, a.Hi.Den), Hi: frac(-a.Lo.Num, a.Lo.Den)}
		if got, e := Neg(a); got != want || e != api.OK {
			t.Errorf("Neg(%v): %v, %d", a, got, e)
		}
	}
}

// small returns the intervals between some fractions whose sums and products are in range, and numbers between their ends.
func small() ([]api.Interval, []api.Frac) {
	ends := []api.Frac{frac(-5, 1), frac(-3, 2), frac(0, 1), frac(1, 3), frac(2, 1), frac(4, 1)}
	between := append([]api.Frac{frac(-7, 2), frac(-1, 4), frac(1, 6), frac(1, 2), frac(3, 1)}, ends...)
	var list []api.Interval
	for i, lo := range ends {
		for _, hi := range ends[i:] {
			list = append(list, api.Interval{Lo: lo, Hi: hi})
		}
	}
	return list, between
}

func TestResultsContainTheResultsForAllNumbers(t *testing.T) {
	list, numbers := small()
	for _, o := range append(combinations, numeric...) {
		for _, a := range list {
			for _, b := range list {
				single := o.name == "Scale" || o.name == "Div"
				if single && (b.Lo != b.Hi || o.name == "Div" && b.Lo.Num == 0) {
					continue
				}
				c, e := o.f(a, b)
				if e != api.OK {
					t.Fatalf("%s(%v, %v): %d", o.name, a, b, e)
				}
				attained := map[api.Frac]bool{}
				for _, x := range numbers {
					for _, y := range numbers {
						if !within(a, exact(x)) || !within(b, exact(y)) {
							continue
						}
						r := o.exact(new(big.Rat), exact(x), exact(y))
						if !within(c, r) {
							t.Errorf("%s(%v, %v): %v lacks the result %v for %v and %v", o.name, a, b, c, r, x, y)
						}
						f, _ := bounded(r)
						attained[f] = true
					}
				}
				if !attained[c.Lo] || !attained[c.Hi] {
					t.Errorf("%s(%v, %v): %v: an end is no result", o.name, a, b, c)
				}
			}
		}
	}
}

func TestInclusionIsPreserved(t *testing.T) {
	list, _ := small()
	all := append([]operation{{"Hull", Hull, nil}}, combinations...)
	for _, o := range all {
		for _, a := range list {
			for _, greater := range list {
				if !Inside(a, greater) {
					continue
				}
				for _, b := range list {
					x, _ := o.f(a, b)
					y, _ := o.f(greater, b)
					if !Inside(x, y) {
						t.Errorf("%s: %v for %v, but %v for %v, with %v", o.name, x, a, y, greater, b)
					}
					x, _ = o.f(b, a)
					y, _ = o.f(b, greater)
					if !Inside(x, y) {
						t.Errorf("%s: %v for %v, but %v for %v, behind %v", o.name, x, a, y, greater, b)
					}
				}
				v, _ := Neg(a)
				w, _ := Neg(greater)
				if !Inside(v, w) {
					t.Errorf("Neg: %v for %v, but %v for %v", v, a, w, greater)
				}
			}
		}
	}
}

func TestErrorsOfOperations(t *testing.T) {
	refuses := func(name string, a api.Interval, e, want api.Errno) {
		t.Helper()
		if a != (api.Interval{}) || e != want {
			t.Errorf("%s: %v, %d; want %d", name, a, e, want)
		}
	}
	all := append([]operation{{"Hull", Hull, nil}, {"Intersect", Intersect, nil}}, combinations...)
	for _, bad := range invalidIntervals() {
		// With the great interval many results would be out of range, too.
		for _, a := range []api.Interval{of(0, 0), of(1, 2), of(-most, most), bad} {
			for _, o := range all {
				x, e := o.f(a, bad)
				refuses(o.name, x, e, api.ErrArgument)
				x, e = o.f(bad, a)
				refuses(o.name, x, e, api.ErrArgument)
			}
		}
		x, e := Neg(bad)
		refuses("Neg", x, e, api.ErrArgument)
		for _, f := range append(increasing[:len(increasing):len(increasing)], invalid...) {
			x, e = Scale(bad, f)
			refuses("Scale", x, e, api.ErrArgument)
			x, e = Div(bad, f)
			refuses("Div", x, e, api.ErrArgument)
		}
	}
	for _, a := range intervals() {
		x, e := Div(a, frac(0, 1))
		refuses("Div by 0", x, e, api.ErrArgument)
		for _, bad := range invalid {
			x, e = Scale(a, bad)
			refuses("Scale", x, e, api.ErrArgument)
			x, e = Div(a, bad)
			refuses("Div", x, e, api.ErrArgument)
		}
	}
	// A product between the two others has a denominator that is too great.
	fine := frac(1, 999999999999)
	x, e := Mul(api.Interval{Lo: fine, Hi: frac(1, 1)}, api.Interval{Lo: frac(-1, 1), Hi: fine})
	refuses("Mul", x, e, api.ErrRange)
	x, e = Scale(api.Interval{Lo: fine, Hi: frac(1, 1)}, fine)
	refuses("Scale", x, e, api.ErrRange)
	x, e = Div(of(1, most), frac(1, 2))
	refuses("Div", x, e, api.ErrRange)
}

func TestExamples(t *testing.T) {
	for _, c := range []struct {
		name string
		f    func(a, b api.Interval) (api.Interval, api.Errno)
		a, b api.Interval
		want api.Interval
	}{
		{"Add", Add, of(1, 2), of(3, 5), of(4, 7)},
		{"Sub", Sub, of(1, 2), of(3, 5), of(-4, -1)},
		{"Mul", Mul, of(1, 2), of(3, 5), of(3, 10)},
		{"Mul", Mul, of(-1, 2), of(-3, 1), of(-6, 3)},
		{"Max", Max, of(1, 4), of(2, 3), of(2, 4)},
		{"Min", Min, of(1, 4), of(2, 3), of(1, 3)},
		{"Hull", Hull, of(1, 2), of(4, 5), of(1, 5)},
		{"Intersect", Intersect, of(1, 2), of(2, 5), of(2, 2)},
		{"Add of the greatest", Add, of(0, most), of(-most, 0), of(-most, most)},
	} {
		if got, e := c.f(c.a, c.b); got != c.want || e != api.OK {
			t.Errorf("%s(%v, %v): %v, %d; want %v", c.name, c.a, c.b, got, e, c.want)
		}
	}
	want := api.Interval{Lo: frac(-1, 1), Hi: frac(-1, 2)}
	if got, e := Div(of(1, 2), frac(-2, 1)); got != want || e != api.OK {
		t.Errorf("Div: %v, %d", got, e)
	}
	if got, e := Intersect(of(1, 2), of(4, 5)); got != (api.Interval{}) || e != api.ErrNone {
		t.Errorf("Intersect: %v, %d", got, e)
	}
}
