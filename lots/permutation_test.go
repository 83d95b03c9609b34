package lots

import (
	"cmp"
	"math"
	"math/rand"
	"slices"
	"testing"

	"salchow/api"
)

// permutations returns the permutations of length n, from the least to the greatest.
func permutations(n int) [][]int {
	all := [][]int{nil}
	for range n {
		var longer [][]int
		for _, p := range all {
			for k := range n {
				if !slices.Contains(p, k) {
					longer = append(longer, append(slices.Clone(p), k))
				}
			}
		}
		all = longer
	}
	return all
}

func TestRankAndUnrank(t *testing.T) {
	for n := range 8 {
		all := permutations(n)
		for rank, p := range all {
			before := slices.Clone(p)
			if got, e := Rank(p); e != api.OK || got != int64(rank) {
				t.Errorf("Rank(%v): %d, %d; want %d", p, got, e, rank)
			}
			if got, e := Unrank(n, int64(rank)); e != api.OK || !slices.Equal(got, p) {
				t.Errorf("Unrank(%d, %d): %v, %d; want %v", n, rank, got, e, p)
			}
			if !slices.Equal(p, before) {
				t.Errorf("%v was changed: %v", before, p)
			}
		}
		if got, e := Unrank(n, int64(len(all))); e != api.ErrArgument || len(got) != 0 {
			t.Errorf("Unrank(%d, %d): %v, %d", n, len(all), got, e)
		}
	}
}

func TestRanksOfLongPermutations(t *testing.T) {
	random := rand.New(rand.NewSource(6))
	for n := 8; n <= 20; n++ {
		for range 200 {
			p, q := random.Perm(n), random.Perm(n)
			if random.Intn(3) == 0 {
				// A permutation that differs from p in two places only.
				i, k := random.Intn(n), random.Intn(n)
				copy(q, p)
				q[i], q[k] = q[k], q[i]
			}
			a, e := Rank(p)
			b, f := Rank(q)
			if e != api.OK || f != api.OK || cmp.Compare(a, b) != slices.Compare(p, q) {
				t.Errorf("Rank of %v and %v: %d, %d, %d, %d", p, q, a, e, b, f)
			}
			if back, e := Unrank(n, a); e != api.OK || !slices.Equal(back, p) {
				t.Errorf("Unrank(%d, %d): %v, %d; want %v", n, a, back, e, p)
			}
			next := random.Int63n(factorial(n))
			if made, e := Unrank(n, next); e != api.OK {
				t.Errorf("Unrank(%d, %d): %d", n, next, e)
			} else if back, e := Rank(made); e != api.OK || back != next {
				t.Errorf("Rank(%v): %d, %d; want %d", made, back, e, next)
			}
		}
	}
}

func TestRankExamples(t *testing.T) {
	last := make([]int, 20)
	for i := range last {
		last[i] = 19 - i
	}
	for _, c := range []struct {
		p    []int
		rank int64
	}{{[]int{2, 0, 1}, 4}, {[]int{2, 1, 0}, 5}, {nil, 0}, {[]int{0}, 0}, {last, 2432902008176639999}, {[]int{0, 1, 2, 3, 4, 5, 6, 7, 8, 9, 10, 11, 12, 13, 14, 15, 16, 17, 18, 19}, 0}} {
		if got, e := Rank(c.p); e != api.OK || got != c.rank {
			t.Errorf("Rank(%v): %d, %d; want %d", c.p, got, e, c.rank)
		}
		if got, e := Unrank(len(c.p), c.rank); e != api.OK || !slices.Equal(got, c.p) {
			t.Errorf("Unrank(%d, %d): %v, %d; want %v", len(c.p), c.rank, got, e, c.p)
		}
	}
}

func TestRankErrors(t *testing.T) {
	for _, p := range [][]int{
		{1}, {-1}, {0, 0}, {1, 1}, {0, 2}, {1, 2}, {-1, 0}, {0, 1, 3}, {0, 1, 1}, {0, 2, 2}, {math.MinInt}, {math.MaxInt, 0}, {3, 2, 1},
		identity(21), identity(300), slices.Repeat([]int{0}, 20),
	} {
		if got, e := Rank(p); e != api.ErrArgument || got != 0 {
			t.Errorf("Rank(%v): %d, %d", p, got, e)
		}
	}
}

func TestUnrankErrors(t *testing.T) {
	for _, c := range []struct {
		n    int
		rank int64
	}{
		{-1, 0}, {21, 0}, {21, 1}, {math.MinInt, 0}, {math.MaxInt, 0}, {0, 1}, {1, 1}, {3, 6}, {3, -1}, {0, -1}, {20, -1}, {20, 2432902008176640000},
		{3, math.MinInt64}, {3, math.MaxInt64}, {20, math.MaxInt64}, {22, 1}, {66, 0}, {-5, 0},
	} {
		if got, e := Unrank(c.n, c.rank); e != api.ErrArgument || len(got) != 0 {
			t.Errorf("Unrank(%d, %d): %v, %d", c.n, c.rank, got, e)
		}
	}
}
