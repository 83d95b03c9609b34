package catalog

import (
	"math/rand"
	"slices"
	"strings"
	"testing"

	"salchow/api"
)

// shortStrings returns all strings of at most so many bytes of a, b and c.
func shortStrings(most int) []string {
	all := []string{""}
	for i := 0; i < len(all); i++ {
		if len(all[i]) < most {
			all = append(all, all[i]+"a", all[i]+"b", all[i]+"c")
		}
	}
	return all
}

// neighbours returns the strings to which one step leads, with bytes of a, b and c.
func neighbours(s string) []string {
	var all []string
	for i := range len(s) + 1 {
		for _, c := range []string{"a", "b", "c"} {
			all = append(all, s[:i]+c+s[i:])
			if i < len(s) {
				all = append(all, s[:i]+c+s[i+1:])
			}
		}
		if i < len(s) {
			all = append(all, s[:i]+s[i+1:])
		}
	}
	return all
}

func TestDistanceIsTheLeastNumberOfSteps(t *testing.T) {
	all := shortStrings(4)
	for _, from := range all {
		steps := map[string]int{from: 0}
		// No shortest way needs a string that is longer than both ends.
		for reached := []string{from}; len(reached) > 0; reached = reached[1:] {
			for _, s := range neighbours(reached[0]) {
				if _, known := steps[s]; !known && len(s) <= 4 {
					steps[s] = steps[reached[0]] + 1
					reached = append(reached, s)
				}
			}
		}
		for _, to := range all {
			if got := Distance(from, to); got != steps[to] {
				t.Errorf("Distance(%q, %q): %d; want %d", from, to, got, steps[to])
			}
		}
	}
}

func TestDistances(t *testing.T) {
	for _, c := range []struct {
		a, b string
		want int
	}{
		{"2A", "3A", 1}, {"2A", "", 2}, {"", "", 0}, {"kitten", "sitting", 3}, {"flaw", "lawn", 2}, {"a", "A", 1}, {"2A", "A2", 2}, {"abc", "abc", 0},
		// Steps change bytes.
		{"é", "", 2}, {"é", "e", 2}, {"\xff\x00", "\x00\xff", 2}, {"日本", "日木", 1}, {"\x80", "\x81", 1},
		{strings.Repeat("ab", 1000), strings.Repeat("ba", 1000), 2}, {strings.Repeat("a", 3000), strings.Repeat("b", 1000), 3000}, {strings.Repeat("a", 100000), "aa", 99998}, {"xyz", strings.Repeat("a", 100000) + "z", 100000},
	} {
		if got, back := Distance(c.a, c.b), Distance(c.b, c.a); got != c.want || back != c.want {
			t.Errorf("Distance(%.20q, %.20q): %d, %d; want %d", c.a, c.b, got, back, c.want)
		}
	}
}

func TestDistanceIsAMetric(t *testing.T) {
	random := rand.New(rand.NewSource(67))
	text := func() string {
		s := make([]byte, random.Intn(12))
		for i := range s {
			s[i] = "abA\xff"[random.Intn(4)]
		}
		return string(s)
	}
	for range 5000 {
		a, b, c := text(), text(), text()
		ab, ba, bc, ac := Distance(a, b), Distance(b, a), Distance(b, c), Distance(a, c)
		if ab != ba || (ab == 0) != (a == b) || ac > ab+bc || ab < len(a)-len(b) || ab > max(len(a), len(b)) {
			t.Errorf("%q, %q, %q: %d, %d, %d, %d", a, b, c, ab, ba, bc, ac)
		}
	}
}

func TestClosest(t *testing.T) {
	c := loaded(t, example)
	if got := Closest(c, "4A"); !slices.Equal(got, []string{"2A", "3A"}) {
		t.Errorf("%q", got)
	}
	c = long(t)
	for s, want := range map[string][]string{
		"2A": {"2A"}, "5A": {"1A", "2A", "3A", "4A"}, "2": {"2A", "2T"}, "T2": {"1A", "2A", "2T", "3A", "4A"}, "CCoSp": {"CSp"}, "csp": {"CSp"}, "": {"1A", "2A", "2T", "3A", "4A"}, "ABCDEFGHIJK": {"CSp"}, "4T": {"2T", "4A"},
	} {
		if got := Closest(c, s); !slices.Equal(got, want) {
			t.Errorf("Closest to %q: %q; want %q", s, got, want)
		}
	}
	if got := Closest(api.Catalog{}, "2A"); len(got) != 0 {
		t.Errorf("%q", got)
	}
	random := rand.New(rand.NewSource(68))
	for range 2000 {
		c := draw(random)
		before := copiedCatalog(c)
		s := []string{"", "A", "A0", "B1", "22", "\xff", "A1B2C", "c0"}[random.Intn(8)]
		var want []string
		for _, e := range c.Elements {
			closer := func(other api.Element) bool { return Distance(s, other.Code) < Distance(s, e.Code) }
			if !slices.ContainsFunc(c.Elements, closer) {
				want = append(want, e.Code)
			}
		}
		if got := Closest(c, s); !slices.Equal(got, want) || !same(c, before) {
			t.Errorf("Closest(%v, %q): %q; want %q", c.Elements, s, got, want)
		}
	}
}

func TestClosestToALongString(t *testing.T) {
	c := loaded(t, elementsBehindGroup())
	if got := Closest(c, strings.Repeat("E", 20000)+"399"); !slices.Equal(got, []string{"E399"}) {
		t.Errorf("%q", got)
	}
}
