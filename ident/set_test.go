package ident

import (
	"math"
	"math/rand"
	"slices"
	"strings"
	"testing"

	"salchow/api"
)

// lists returns lists of few different strings, sorted and not.
func lists() [][]string {
	random := rand.New(rand.NewSource(1))
	all := [][]string{nil, {}, {""}, {"", ""}, {"a"}, {"a", "a"}, {"b", "a"}, {"a", "b"}, {"\xff", "\x00", ""}, {"a", "aa", "aaa"}, {"a10", "a2"}, {"a2", "a10"}}
	for range 60 {
		var list []string
		for range random.Intn(7) {
			list = append(list, strung(2, "ab")[random.Intn(7)])
		}
		all = append(all, list)
	}
	return all
}

// members returns the different strings of a list that a condition selects, in order.
func members(list []string, selected func(s string) bool) []string {
	found := map[string]bool{}
	for _, s := range list {
		if selected(s) {
			found[s] = true
		}
	}
	var set []string
	for s := range found {
		set = append(set, s)
	}
	slices.Sort(set)
	return set
}

// in reports whether a list contains a string.
func in(list []string, s string) bool {
	return slices.Index(list, s) >= 0
}

func anything(string) bool { return true }

func TestSetsOfOneList(t *testing.T) {
	for _, a := range lists() {
		before := slices.Clone(a)
		if got := Set(a); !slices.Equal(got, members(a, anything)) || !Sorted(got) {
			t.Errorf("Set(%q): %q", a, got)
		}
		if got := Sorted(a); got != slices.Equal(a, members(a, anything)) {
			t.Errorf("Sorted(%q): %v", a, got)
		}
		for _, s := range append(strung(3, "ab"), "\x00", "\xff", "a2") {
			if got := Has(a, s); got != in(a, s) {
				t.Errorf("Has(%q, %q): %v", a, s, got)
			}
		}
		if !slices.Equal(a, before) {
			t.Errorf("%q was changed: %q", before, a)
		}
	}
}

func TestSetsOfTwoLists(t *testing.T) {
	for _, a := range lists() {
		for _, b := range lists() {
			beforeA, beforeB := slices.Clone(a), slices.Clone(b)
			if got := Union(a, b); !slices.Equal(got, members(append(slices.Clone(a), b...), anything)) {
				t.Errorf("Union(%q, %q): %q", a, b, got)
			}
			rest := members(a, func(s string) bool { return !in(b, s) })
			if got := Minus(a, b); !slices.Equal(got, rest) {
				t.Errorf("Minus(%q, %q): %q", a, b, got)
			}
			if got := Subset(a, b); got != (len(rest) == 0) {
				t.Errorf("Subset(%q, %q): %v", a, b, got)
			}
			if !slices.Equal(a, beforeA) || !slices.Equal(b, beforeB) {
				t.Errorf("%q or %q was changed: %q, %q", beforeA, beforeB, a, b)
			}
		}
	}
}

func TestUnionIsAMonoid(t *testing.T) {
	all := lists()[:40]
	for _, a := range all {
		if !slices.Equal(Union(a, a), Set(a)) || !slices.Equal(Union(a, nil), Set(a)) || !slices.Equal(Union(nil, a), Set(a)) {
			t.Errorf("Union of %q with itself or with nothing", a)
		}
		for _, b := range all {
			if !slices.Equal(Union(a, b), Union(b, a)) {
				t.Errorf("Union of %q and %q is not commutative", a, b)
			}
			for _, c := range all {
				if !slices.Equal(Union(Union(a, b), c), Union(a, Union(b, c))) {
					t.Errorf("Union of %q, %q and %q is not associative", a, b, c)
				}
			}
		}
	}
}

func TestSortedMeansStrictly(t *testing.T) {
	for _, list := range [][]string{{"a", "a"}, {"b", "a"}, {"a", "c", "b"}, {"a", "b", "b"}, {"a", ""}, {"a2", "a10"}, {"a", "A"}} {
		if Sorted(list) {
			t.Errorf("%q is no set", list)
		}
	}
	for _, list := range [][]string{nil, {}, {""}, {"", "a"}, {"A", "a"}, {"a10", "a2"}, {"a", "a\x00", "\xff"}} {
		if !Sorted(list) {
			t.Errorf("%q is a set", list)
		}
	}
}

func TestResultsAreNewMemory(t *testing.T) {
	sorted, other := []string{"a", "b", "c"}, []string{"x", "y"}
	full := append(make([]string, 0, 10), "a", "b")
	for name, made := range map[string]func() []string{
		"Set":        func() []string { return Set(sorted) },
		"Union":      func() []string { return Union(sorted, nil) },
		"Union, nil": func() []string { return Union(nil, sorted) },
		"Union, new": func() []string { return Union(full, other) },
		"Minus":      func() []string { return Minus(sorted, nil) },
		"Abbreviate": func() []string { list, _ := Abbreviate(sorted, 1); return list },
	} {
		first := made()
		want := slices.Clone(first)
		for i := range first {
			first[i] = "changed"
		}
		_ = append(first, "changed")
		if !slices.Equal(sorted, []string{"a", "b", "c"}) || !slices.Equal(other, []string{"x", "y"}) || !slices.Equal(full, []string{"a", "b"}) || full[:3][2] != "" {
			t.Errorf("the result of %s shares memory with an argument", name)
		}
		if got := made(); !slices.Equal(got, want) {
			t.Errorf("the result of %s shares memory with another one: %q", name, got)
		}
	}
}

// shortest returns the abbreviation of a string of a set as the definition says.
func shortest(list []string, s string, least int) string {
	for n := least; n <= len(s); n++ {
		begin := s[:n]
		if !slices.ContainsFunc(list, func(other string) bool { return other != s && strings.HasPrefix(other, begin) }) {
			return begin
		}
	}
	return s
}

func TestAbbreviate(t *testing.T) {
	words := []string{"", "a", "ab", "abc", "abcd", "abd", "b", "ba", "bb", "flip", "floor", "vault", "vaulting", "\x00", "\xff\xff"}
	random := rand.New(rand.NewSource(1))
	all := lists()
	for range 300 {
		var list []string
		for range random.Intn(8) {
			list = append(list, words[random.Intn(len(words))])
		}
		all = append(all, list)
	}
	for _, list := range all {
		list = members(list, anything)
		for _, least := range []int{1, 2, 3, 4, 9, math.MaxInt} {
			var want []string
			for _, s := range list {
				want = append(want, shortest(list, s, least))
			}
			got, e := Abbreviate(list, least)
			if e != api.OK || !slices.Equal(got, want) {
				t.Fatalf("Abbreviate(%q, %d): %q, %d", list, least, got, e)
			}
			if unique := members(got, anything); len(unique) != len(list) {
				t.Fatalf("Abbreviate(%q, %d) has equal ones: %q", list, least, got)
			}
			for i, short := range got {
				begun := members(list, func(s string) bool { return strings.HasPrefix(s, short) })
				if !strings.HasPrefix(list[i], short) || short != list[i] && len(begun) != 1 {
					t.Fatalf("Abbreviate(%q, %d): %q is a beginning of %q", list, least, short, begun)
				}
			}
		}
	}
}

func TestAbbreviateExamples(t *testing.T) {
	for _, c := range []struct {
		list  []string
		least int
		want  []string
	}{
		{[]string{"flip", "floor", "vault"}, 1, []string{"fli", "flo", "v"}},
		{[]string{"flip", "floor", "vault"}, 3, []string{"fli", "flo", "vau"}},
		{[]string{"flip", "floor", "vault"}, 4, []string{"flip", "floo", "vaul"}},
		{[]string{"flip", "floor", "vault"}, 100, []string{"flip", "floor", "vault"}},
		{[]string{"ab", "abc"}, 1, []string{"ab", "abc"}},
		{[]string{"abc", "abcd", "abce"}, 1, []string{"abc", "abcd", "abce"}},
		{[]string{"", "a", "bc"}, 1, []string{"", "a", "b"}},
		{[]string{"vault"}, 1, []string{"v"}},
		{[]string{""}, 1, []string{""}},
		{nil, 1, nil},
	} {
		if got, e := Abbreviate(c.list, c.least); e != api.OK || !slices.Equal(got, c.want) {
			t.Errorf("Abbreviate(%q, %d): %q, %d", c.list, c.least, got, e)
		}
	}
}

func TestAbbreviateRefuses(t *testing.T) {
	for _, c := range []struct {
		list  []string
		least int
		want  api.Errno
	}{
		{[]string{"b", "a"}, 1, api.ErrArgument},
		{[]string{"a", "a"}, 1, api.ErrArgument},
		{[]string{"a", "c", "b"}, 0, api.ErrArgument}, // the error that is named first
		{[]string{"a", "a"}, math.MinInt, api.ErrArgument},
		{[]string{"a", "b"}, 0, api.ErrRange},
		{[]string{"a", "b"}, -1, api.ErrRange},
		{nil, 0, api.ErrRange},
		{nil, math.MinInt, api.ErrRange},
	} {
		if got, e := Abbreviate(c.list, c.least); e != c.want || len(got) != 0 {
			t.Errorf("Abbreviate(%q, %d): %q, %d", c.list, c.least, got, e)
		}
	}
}

func TestAbbreviateOfManyStrings(t *testing.T) {
	long := strings.Repeat("x", 1000)
	var list []string
	for _, end := range strung(10, "ab") {
		list = append(list, long+end)
	}
	slices.Sort(list)
	got, e := Abbreviate(list, 1)
	if e != api.OK || len(got) != len(list) || got[0] != long {
		t.Fatalf("%d abbreviations, %d", len(got), e)
	}
	for i, s := range got { // every one but the longest is a beginning of another one
		if s != list[i] {
			t.Errorf("%q", s)
		}
	}
}
