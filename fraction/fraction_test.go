package fraction

import (
	"math"
	"math/big"
	"math/rand"
	"slices"
	"testing"

	"salchow/api"
)

const most = int64(api.MaxNum)

// frac returns a value of api.Frac, whether it is a fraction or not.
func frac(num, den int64) api.Frac { return api.Frac{Num: num, Den: den} }

// invalid are values of api.Frac that are no fractions.
var invalid = []api.Frac{
	{}, frac(1, 0), frac(0, -1), frac(1, -2), frac(-1, -2), frac(0, 2), frac(2, 4), frac(-3, 9), frac(most, most),
	frac(most+1, 1), frac(-most-1, 1), frac(1, most+1), frac(math.MinInt64, 1), frac(math.MaxInt64, 1),
	frac(1, math.MaxInt64), frac(1, math.MinInt64), frac(math.MinInt64, math.MinInt64), frac(0, most),
}

// increasing are fractions, from the least to the greatest.
var increasing = []api.Frac{
	frac(-most, 1), frac(-most+1, 1), frac(-most, 3), frac(-7, 1), frac(-3, 2), frac(-1, 1), frac(-most+1, most), frac(-1, 2), frac(-1, 3),
	frac(-1, most-1), frac(-1, most), frac(0, 1), frac(1, most), frac(1, most-1), frac(1, 1000), frac(333333333333333333, most), frac(1, 3),
	frac(most/2-1, most-1), frac(1, 2), frac(most-2, most-1), frac(most-1, most), frac(1, 1), frac(most, most-1), frac(most-1, most-2), frac(9, 4), frac(most, 7), frac(most-1, 1), frac(most, 1),
}

// exact returns a fraction as a number of math/big.
func exact(a api.Frac) *big.Rat { return big.NewRat(a.Num, a.Den) }

// bounded returns the fraction of a number, or ErrRange.
func bounded(r *big.Rat) (api.Frac, api.Errno) {
	limit := big.NewInt(most)
	if r.Num().CmpAbs(limit) > 0 || r.Denom().Cmp(limit) > 0 {
		return api.Frac{}, api.ErrRange
	}
	return frac(r.Num().Int64(), r.Denom().Int64()), api.OK
}

// samples returns fractions of many sizes, among them extreme ones.
func samples() []api.Frac {
	random := rand.New(rand.NewSource(1))
	list := slices.Clone(increasing)
	for bits := 1; bits <= 60; bits += 3 {
		for range 4 {
			num := random.Int63n(1<<bits) % (most + 1)
			den := random.Int63n(1<<(61-bits))%most + 1
			if random.Intn(2) == 0 {
				num, den = -num, random.Int63n(1<<bits)%most+1
			}
			g := new(big.Int).GCD(nil, nil, new(big.Int).Abs(big.NewInt(num)), big.NewInt(den)).Int64()
			list = append(list, frac(num/g, den/g))
		}
	}
	return list
}

func TestValid(t *testing.T) {
	for _, a := range samples() {
		if !Valid(a) {
			t.Errorf("Valid(%v) is false", a)
		}
	}
	for _, a := range invalid {
		if Valid(a) {
			t.Errorf("Valid(%v) is true", a)
		}
	}
}

func TestMake(t *testing.T) {
	for _, c := range []struct {
		num, den int64
		want     api.Frac
		e        api.Errno
	}{
		{6, -4, frac(-3, 2), api.OK}, {-6, -4, frac(3, 2), api.OK}, {-6, 4, frac(-3, 2), api.OK}, {6, 4, frac(3, 2), api.OK},
		{0, 7, frac(0, 1), api.OK}, {0, -7, frac(0, 1), api.OK}, {0, math.MinInt64, frac(0, 1), api.OK}, {5, 1, frac(5, 1), api.OK},
		{most, 1, frac(most, 1), api.OK}, {-most, 1, frac(-most, 1), api.OK}, {1, most, frac(1, most), api.OK}, {1, -most, frac(-1, most), api.OK},
		{2 * most, 2, frac(most, 1), api.OK}, {2, 2 * most, frac(1, most), api.OK}, {math.MaxInt64, math.MaxInt64, frac(1, 1), api.OK},
		{math.MinInt64, math.MinInt64, frac(1, 1), api.OK}, {math.MinInt64, -16, frac(1<<59, 1), api.OK}, {math.MinInt64, 16, frac(-1<<59, 1), api.OK}, {-16, math.MinInt64, frac(1, 1<<59), api.OK},
		{most + 1, 1, api.Frac{}, api.ErrRange}, {-most - 1, 1, api.Frac{}, api.ErrRange}, {1, most + 1, api.Frac{}, api.ErrRange}, {1, -most - 1, api.Frac{}, api.ErrRange},
		{math.MinInt64, 1, api.Frac{}, api.ErrRange}, {math.MinInt64, -1, api.Frac{}, api.ErrRange}, {1, math.MinInt64, api.Frac{}, api.ErrRange}, {math.MinInt64, math.MaxInt64, api.Frac{}, api.ErrRange},
		{1, 0, api.Frac{}, api.ErrArgument}, {0, 0, api.Frac{}, api.ErrArgument}, {math.MinInt64, 0, api.Frac{}, api.ErrArgument},
	} {
		if a, e := Make(c.num, c.den); a != c.want || e != c.e {
			t.Errorf("Make(%d, %d): %v, %d", c.num, c.den, a, e)
		}
	}
}

func TestMilli(t *testing.T) {
	for n, want := range map[int64]api.Frac{
		0: frac(0, 1), 1: frac(1, 1000), -1: frac(-1, 1000), 1500: frac(3, 2), -8250: frac(-33, 4), 7000: frac(7, 1),
		most: frac(most/1000, 1), -most: frac(-most/1000, 1), most - 1: frac(most-1, 1000),
		most + 1: {}, -most - 1: {}, most + 1000: {}, -most - 1000: {}, 2 * most: {}, -2 * most: {}, math.MaxInt64: {}, math.MinInt64: {},
	} {
		if a := Milli(n); a != want {
			t.Errorf("Milli(%d): %v", n, a)
		}
	}
}

func TestNeg(t *testing.T) {
	for _, a := range samples() {
		if b := Neg(a); b != frac(-a.Num, a.Den) {
			t.Errorf("Neg(%v): %v", a, b)
		}
	}
	for _, a := range invalid {
		if b := Neg(a); b != (api.Frac{}) {
			t.Errorf("Neg(%v): %v", a, b)
		}
	}
}

// operation is a function of two fractions, and the same one without bounds.
type operation struct {
	name  string
	f     func(a, b api.Frac) (api.Frac, api.Errno)
	exact func(z, a, b *big.Rat) *big.Rat
}

var operations = []operation{{"Add", Add, (*big.Rat).Add}, {"Sub", Sub, (*big.Rat).Sub}, {"Mul", Mul, (*big.Rat).Mul}, {"Div", Div, (*big.Rat).Quo}}

func TestOperationsAreExact(t *testing.T) {
	list := samples()
	for _, o := range operations {
		inside, outside := 0, 0
		for _, a := range list {
			for _, b := range list {
				if o.name == "Div" && b.Num == 0 {
					continue
				}
				want, wantE := bounded(o.exact(new(big.Rat), exact(a), exact(b)))
				if x, e := o.f(a, b); x != want || e != wantE {
					t.Fatalf("%s(%v, %v): %v, %d instead of %v, %d", o.name, a, b, x, e, want, wantE)
				}
				if wantE == api.OK {
					inside++
				} else {
					outside++
				}
			}
		}
		if inside < 500 || outside < 500 {
			t.Errorf("%s: too few cases: %d, %d", o.name, inside, outside)
		}
	}
}

// greatPair returns two fractions for whose sum numbers of more than 64 bits are added, though the sum itself is in range.
func greatPair(random *rand.Rand) (api.Frac, api.Frac) {
	const p, q, common = 1000003, 999983, 10000019
	x, y := random.Int63n(most-common)+1, random.Int63n(most-2*common)+1
	if random.Intn(2) == 0 {
		x = -x
	}
	// y becomes the next number for which x * q + y * p is a multiple of common.
	sum := new(big.Int).Add(new(big.Int).Mul(big.NewInt(x), big.NewInt(q)), new(big.Int).Mul(big.NewInt(y), big.NewInt(p)))
	inverse := new(big.Int).ModInverse(big.NewInt(p), big.NewInt(common))
	step := sum.Neg(sum).Mul(sum, inverse)
	y += step.Mod(step, big.NewInt(common)).Int64()
	a, _ := Make(x, p*common)
	b, _ := Make(y, q*common)
	return a, b
}

func TestAddOfGreatProducts(t *testing.T) {
	random := rand.New(rand.NewSource(3))
	for range 1000 {
		a, b := greatPair(random)
		want, wantE := bounded(new(big.Rat).Add(exact(a), exact(b)))
		if wantE != api.OK {
			t.Fatalf("the sum of %v and %v is out of range", a, b)
		}
		if x, e := Add(a, b); x != want || e != api.OK {
			t.Fatalf("Add(%v, %v): %v, %d instead of %v", a, b, x, e, want)
		}
		if x, e := Sub(b, Neg(a)); x != want || e != api.OK {
			t.Fatalf("Sub(%v, %v): %v, %d instead of %v", b, Neg(a), x, e, want)
		}
		if x, e := Sum([]api.Frac{b, a}); x != want || e != api.OK {
			t.Fatalf("Sum of %v and %v: %v, %d instead of %v", b, a, x, e, want)
		}
	}
}

func TestOperationsNeedFractions(t *testing.T) {
	for _, o := range operations {
		for _, bad := range invalid {
			for _, a := range append(slices.Clone(invalid), frac(0, 1), frac(1, 2), frac(most, 1)) {
				if x, e := o.f(a, bad); x != (api.Frac{}) || e != api.ErrArgument {
					t.Errorf("%s(%v, %v): %v, %d", o.name, a, bad, x, e)
				}
				if x, e := o.f(bad, a); x != (api.Frac{}) || e != api.ErrArgument {
					t.Errorf("%s(%v, %v): %v, %d", o.name, bad, a, x, e)
				}
			}
		}
	}
	for _, a := range append(slices.Clone(increasing), invalid...) {
		if x, e := Div(a, frac(0, 1)); x != (api.Frac{}) || e != api.ErrArgument {
			t.Errorf("Div(%v, 0): %v, %d", a, x, e)
		}
	}
}

func TestOperationsExamples(t *testing.T) {
	for i, c := range []struct {
		f          func(a, b api.Frac) (api.Frac, api.Errno)
		a, b, want api.Frac
		e          api.Errno
	}{
		{Add, frac(1, 3), frac(1, 6), frac(1, 2), api.OK},
		{Add, frac(most-1, most), frac(1, most), frac(1, 1), api.OK},
		{Add, frac(most, 1), frac(1, 1), api.Frac{}, api.ErrRange},
		{Add, frac(most, 1), frac(-most, 1), frac(0, 1), api.OK},
		{Add, frac(1, most), frac(1, most-1), api.Frac{}, api.ErrRange},
		{Sub, frac(-most, 1), frac(1, 1), api.Frac{}, api.ErrRange},
		{Sub, frac(1, most), frac(1, most), frac(0, 1), api.OK},
		{Mul, frac(2, 3), frac(9, 4), frac(3, 2), api.OK},
		{Mul, frac(most, most-1), frac(most-1, most), frac(1, 1), api.OK},
		{Mul, frac(1, most), frac(1, 2), api.Frac{}, api.ErrRange},
		{Mul, frac(0, 1), frac(1, most), frac(0, 1), api.OK},
		{Div, frac(-1, 2), frac(-3, 4), frac(2, 3), api.OK},
		{Div, frac(0, 1), frac(-3, 4), frac(0, 1), api.OK},
		{Div, frac(most, 1), frac(most, 1), frac(1, 1), api.OK},
		{Div, frac(most, 1), frac(1, 2), api.Frac{}, api.ErrRange},
	} {
		if x, e := c.f(c.a, c.b); x != c.want || e != c.e {
			t.Errorf("case %d: %v, %d", i, x, e)
		}
	}
}

func TestCmp(t *testing.T) {
	for i, a := range increasing {
		for k, b := range increasing {
			want := 0
			if i < k {
				want = -1
			} else if i > k {
				want = 1
			}
			if c := Cmp(a, b); c != want {
				t.Errorf("Cmp(%v, %v): %d", a, b, c)
			}
		}
	}
	list := samples()
	for _, a := range list {
		for _, b := range list {
			if c := Cmp(a, b); c != exact(a).Cmp(exact(b)) {
				t.Errorf("Cmp(%v, %v): %d", a, b, c)
			}
		}
	}
}

func TestCmpOfInvalidValues(t *testing.T) {
	for _, a := range invalid {
		for _, b := range invalid {
			if c := Cmp(a, b); c != 0 {
				t.Errorf("Cmp(%v, %v): %d", a, b, c)
			}
		}
		for _, b := range increasing {
			if c, d := Cmp(a, b), Cmp(b, a); c != -1 || d != 1 {
				t.Errorf("Cmp(%v, %v): %d, %d", a, b, c, d)
			}
		}
	}
}

func TestSumAndMean(t *testing.T) {
	one, top, least := frac(1, 1), frac(most, 1), frac(1, most)
	for i, c := range []struct {
		list      []api.Frac
		sum       api.Frac
		sumError  api.Errno
		mean      api.Frac
		meanError api.Errno
	}{
		{nil, frac(0, 1), api.OK, api.Frac{}, api.ErrArgument},
		{[]api.Frac{}, frac(0, 1), api.OK, api.Frac{}, api.ErrArgument},
		{[]api.Frac{frac(-7, 3)}, frac(-7, 3), api.OK, frac(-7, 3), api.OK},
		{[]api.Frac{frac(1, 2), frac(1, 3), frac(1, 6)}, one, api.OK, frac(1, 3), api.OK},
		{[]api.Frac{frac(17, 2), frac(9, 1), frac(37, 4)}, frac(107, 4), api.OK, frac(107, 12), api.OK},
		{[]api.Frac{one, frac(-1, 1)}, frac(0, 1), api.OK, frac(0, 1), api.OK},
		{[]api.Frac{top, one, frac(-1, 1)}, api.Frac{}, api.ErrRange, api.Frac{}, api.ErrRange},
		{[]api.Frac{top, frac(-1, 1), one}, top, api.OK, frac(most, 3), api.OK},
		{[]api.Frac{top, frac(-most+3, 1), frac(0, 1)}, frac(3, 1), api.OK, one, api.OK},
		{[]api.Frac{top, top}, api.Frac{}, api.ErrRange, api.Frac{}, api.ErrRange},
		{[]api.Frac{frac(-most, 1), frac(-most, 1)}, api.Frac{}, api.ErrRange, api.Frac{}, api.ErrRange},
		{[]api.Frac{least, frac(1, most-1)}, api.Frac{}, api.ErrRange, api.Frac{}, api.ErrRange},
		{[]api.Frac{least, frac(0, 1)}, least, api.OK, api.Frac{}, api.ErrRange},
		{[]api.Frac{least, least}, frac(1, most/2), api.OK, least, api.OK},
		{[]api.Frac{one, {}}, api.Frac{}, api.ErrArgument, api.Frac{}, api.ErrArgument},
		{[]api.Frac{frac(2, 4)}, api.Frac{}, api.ErrArgument, api.Frac{}, api.ErrArgument},
		{[]api.Frac{top, one, frac(2, 2)}, api.Frac{}, api.ErrArgument, api.Frac{}, api.ErrArgument},
	} {
		before := slices.Clone(c.list)
		if x, e := Sum(c.list); x != c.sum || e != c.sumError {
			t.Errorf("case %d: Sum: %v, %d", i, x, e)
		}
		if x, e := Mean(c.list); x != c.mean || e != c.meanError {
			t.Errorf("case %d: Mean: %v, %d", i, x, e)
		}
		if !slices.Equal(before, c.list) {
			t.Errorf("case %d: the list has changed", i)
		}
	}
}
