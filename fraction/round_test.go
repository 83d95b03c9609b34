package fraction

import (
	"math/big"
	"testing"

	"salchow/api"
)

// roundExactly rounds the magnitude of a as the chapter defines it, without bounds.
func roundExactly(a api.Frac, digits, mode int) *big.Int {
	unit := new(big.Int).Exp(big.NewInt(10), big.NewInt(int64(digits)), nil)
	x := new(big.Rat).Mul(exact(a), new(big.Rat).SetInt(unit))
	lower, rest := new(big.Int).QuoRem(new(big.Int).Abs(x.Num()), x.Denom(), new(big.Int))
	half := new(big.Int).Lsh(rest, 1).Cmp(x.Denom())
	if mode == api.HalfUp && half >= 0 || mode == api.HalfEven && (half > 0 || half == 0 && lower.Bit(0) == 1) {
		lower.Add(lower, big.NewInt(1))
	}
	if x.Sign() < 0 {
		lower.Neg(lower)
	}
	return lower
}

func TestRoundIsExact(t *testing.T) {
	list := samples()
	for n := int64(-40); n <= 40; n++ {
		for _, den := range []int64{1, 2, 4, 8, 16, 3, 2000, 2000000} {
			a, _ := Make(n, den)
			list = append(list, a)
		}
	}
	for _, a := range list {
		for digits := 0; digits <= 6; digits++ {
			for _, mode := range []int{api.Down, api.HalfUp, api.HalfEven} {
				want, wantE := roundExactly(a, digits, mode), api.OK
				if want.CmpAbs(big.NewInt(most)) > 0 {
					want, wantE = new(big.Int), api.ErrRange
				}
				if n, e := Round(a, digits, mode); n != want.Int64() || e != wantE {
					t.Fatalf("Round(%v, %d, %d): %d, %d instead of %v, %d", a, digits, mode, n, e, want, wantE)
				}
			}
		}
	}
}

func TestRoundExamples(t *testing.T) {
	for _, c := range []struct {
		a                      api.Frac
		digits                 int
		down, halfUp, halfEven int64
	}{
		{frac(1, 8), 2, 12, 13, 12}, {frac(-1, 8), 2, -12, -13, -12}, {frac(3, 8), 2, 37, 38, 38}, {frac(-3, 8), 2, -37, -38, -38},
		{frac(2, 3), 3, 666, 667, 667}, {frac(-2, 3), 0, 0, -1, -1}, {frac(1, 3), 0, 0, 0, 0}, {frac(1, 2), 0, 0, 1, 0}, {frac(-1, 2), 0, 0, -1, 0},
		{frac(3, 2), 0, 1, 2, 2}, {frac(5, 2), 0, 2, 3, 2}, {frac(107, 12), 3, 8916, 8917, 8917}, {frac(7, 1), 6, 7000000, 7000000, 7000000},
		{frac(0, 1), 6, 0, 0, 0}, {frac(1, most), 6, 0, 0, 0}, {frac(most, 1), 0, most, most, most}, {frac(-most, 1), 0, -most, -most, -most},
		{frac(1000000000000, 1), 6, most, most, most}, {frac(most-1, most), 6, 999999, 1000000, 1000000},
	} {
		for mode, want := range map[int]int64{api.Down: c.down, api.HalfUp: c.halfUp, api.HalfEven: c.halfEven} {
			if n, e := Round(c.a, c.digits, mode); n != want || e != api.OK {
				t.Errorf("Round(%v, %d, %d): %d, %d", c.a, c.digits, mode, n, e)
			}
		}
	}
}

func TestRoundErrors(t *testing.T) {
	for _, c := range []struct {
		a            api.Frac
		digits, mode int
		e            api.Errno
	}{
		{frac(most, 1), 1, api.Down, api.ErrRange}, {frac(-most, 1), 6, api.HalfUp, api.ErrRange}, {frac(1000000000001, 1), 6, api.Down, api.ErrRange},
		{frac(1<<58, 1), 6, api.Down, api.ErrRange}, {frac(most, 3), 6, api.HalfEven, api.ErrRange}, // 2^58 * 10^6 is a multiple of 2^64
		{frac(1, 2), -1, api.Down, api.ErrArgument}, {frac(1, 2), 7, api.Down, api.ErrArgument}, {frac(1, 2), 1 << 62, api.Down, api.ErrArgument}, {frac(1, 2), -1 << 63, api.Down, api.ErrArgument},
		{frac(1, 2), 1, 0, api.ErrArgument}, {frac(1, 2), 1, 4, api.ErrArgument}, {frac(1, 2), 1, -1, api.ErrArgument}, {frac(most, 1), 1, 4, api.ErrArgument},
		{frac(2, 4), 1, api.Down, api.ErrArgument}, {api.Frac{}, 0, api.Down, api.ErrArgument}, {frac(1, -2), 0, api.HalfUp, api.ErrArgument},
	} {
		if n, e := Round(c.a, c.digits, c.mode); n != 0 || e != c.e {
			t.Errorf("Round(%v, %d, %d): %d, %d", c.a, c.digits, c.mode, n, e)
		}
	}
	for _, a := range invalid {
		if n, e := Round(a, 3, api.HalfUp); n != 0 || e != api.ErrArgument {
			t.Errorf("Round(%v): %d, %d", a, n, e)
		}
	}
}
