package lots

import (
	"slices"

	"salchow/api"
)

// MaxOrder is the greatest length of a permutation that is drawn.
const MaxOrder = 1000

// maxRanked is the greatest length of a permutation whose rank has 64 bits.
const maxRanked = 20

// Permutation returns the permutation of 0 to n-1 that a seed determines.
func Permutation(seed string, n int) ([]int, api.Errno) {
	if n < 0 || n > MaxOrder {
		return nil, api.ErrArgument
	}
	p := identity(n)
	s := NewStream(seed)
	for i := n - 1; i >= 1; i-- {
		k, _ := s.Uniform(i + 1)
		p[i], p[k] = p[k], p[i]
	}
	return p, api.OK
}

// Rank returns the lexicographic rank of a permutation of 0 to len(p)-1.
func Rank(p []int) (int64, api.Errno) {
	if len(p) > maxRanked || !permutation(p) {
		return 0, api.ErrArgument
	}
	rank := int64(0)
	for i, x := range p {
		less := 0
		for _, y := range p[i+1:] {
			if y < x {
				less++
			}
		}
		rank = rank*int64(len(p)-i) + int64(less)
	}
	return rank, api.OK
}

// Unrank returns the permutation of 0 to n-1 with a lexicographic rank.
func Unrank(n int, rank int64) ([]int, api.Errno) {
	if n < 0 || n > maxRanked || rank < 0 || rank >= factorial(n) {
		return nil, api.ErrArgument
	}
	p := make([]int, 0, n)
	rest := identity(n)
	for len(rest) > 0 {
		each := factorial(len(rest) - 1) // so many permutations begin in the same way
		k := int(rank / each)
		rank %= each
		p = append(p, rest[k])
		rest = slices.Delete(rest, k, k+1)
	}
	return p, api.OK
}

// identity returns the numbers from 0 to n-1.
func identity(n int) []int {
	p := make([]int, n)
	for i := range p {
		p[i] = i
	}
	return p
}

// permutation reports whether p has all numbers from 0 to len(p)-1.
func permutation(p []int) bool {
	sorted := slices.Clone(p)
	slices.Sort(sorted)
	return slices.Equal(sorted, identity(len(p)))
}

// factorial returns the number of permutations of length n.
func factorial(n int) int64 {
	f := int64(1)
	for i := 2; i <= n; i++ {
		f *= int64(i)
	}
	return f
}
