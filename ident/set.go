package ident

import (
	"slices"

	"salchow/api"
)

// Sorted reports whether the strings are strictly increasing.
func Sorted(list []string) bool {
	for i := 1; i < len(list); i++ {
		if list[i-1] >= list[i] {
			return false
		}
	}
	return true
}

// Set returns the different strings of a list, increasing.
func Set(list []string) []string {
	return Union(list, nil)
}

// Has reports whether a list contains a string.
func Has(list []string, s string) bool {
	return slices.Contains(list, s)
}

// Union returns the set of the strings that are in a or in b.
func Union(a, b []string) []string {
	both := slices.Concat(a, b)
	slices.Sort(both)
	return slices.Compact(both)
}

// Minus returns the set of the strings that are in a and not in b.
func Minus(a, b []string) []string {
	without := Set(b)
	return slices.DeleteFunc(Set(a), func(s string) bool {
		_, found := slices.BinarySearch(without, s)
		return found
	})
}

// Subset reports whether all strings of a are in b.
func Subset(a, b []string) bool {
	return len(Minus(a, b)) == 0
}

// Abbreviate returns for each string of a set the shortest beginning of at least so many bytes that no other string of the set begins with.
func Abbreviate(list []string, least int) ([]string, api.Errno) {
	if !Sorted(list) {
		return nil, api.ErrArgument
	}
	if least < 1 {
		return nil, api.ErrRange
	}
	short := make([]string, len(list))
	before := 0 // how many bytes a string shares with the one before it
	for i, s := range list {
		// No other string of a set shares more bytes with s than one of its neighbours.
		after := 0
		if i+1 < len(list) {
			after = shared(s, list[i+1])
		}
		n := max(least, before+1, after+1)
		short[i] = s[:min(n, len(s))]
		before = after
	}
	return short, api.OK
}

// shared returns the number of bytes with which both a and b begin.
func shared(a, b string) int {
	n := 0
	for n < len(a) && n < len(b) && a[n] == b[n] {
		n++
	}
	return n
}
