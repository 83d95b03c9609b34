package notation

import (
	"math/rand"
	"regexp"
	"slices"
	"strings"
	"testing"

	"salchow/api"
)

// chainText is the form of a chain, but for the limits and codes.
const chainText = `[A-Za-z0-9]+[<?*]*(?:\+[A-Za-z0-9]+[<?*]*)*`

// The forms of the definitions, but for the limits and codes.
var (
	itemForm   = regexp.MustCompile(`([A-Za-z0-9]+)([<?*]*)(\+?)`)
	lineForm   = regexp.MustCompile(`^ *(?:` + chainText + `(?: +` + chainText + `)* *)?$`)
	letterForm = regexp.MustCompile(`[A-Za-z]`)
	marksForm  = regexp.MustCompile(`[<?*]+`)
)

// fault returns a fault.
func fault(code api.Errno, at int) api.Fault { return api.Fault{Code: code, At: at} }

// begins reports whether a line can begin with a text, but for the limits and codes.
func begins(text string) bool {
	return lineForm.MatchString(text) || lineForm.MatchString(text+"a")
}

// expected returns the result of Parse according to the definitions.
func expected(line string) ([]api.Item, api.Fault) {
	end := 0
	for end < len(line) && begins(line[:end+1]) {
		end++
	}
	var items []api.Item
	var faults []api.Fault
	for i, at := range itemForm.FindAllStringSubmatchIndex(line[:end], -1) {
		x := api.Item{Code: line[at[2]:at[3]], Joined: at[6] < at[7]}
		if i >= 30 {
			faults = append(faults, fault(api.ErrLimit, at[2]))
		}
		if len(x.Code) > 8 || !letterForm.MatchString(x.Code) {
			faults = append(faults, fault(api.ErrName, at[2]))
		}
		for k := at[4]; k < at[5]; k++ {
			before := strings.Count(line[at[4]:k], line[k:k+1])
			switch {
			case line[k] == '<' && before >= 9:
				faults = append(faults, fault(api.ErrLimit, k))
			case line[k] != '<' && before >= 1:
				faults = append(faults, fault(api.ErrTwice, k))
			}
		}
		marks := line[at[4]:at[5]]
		x.Down, x.Review, x.Void = strings.Count(marks, "<"), strings.Contains(marks, "?"), strings.Contains(marks, "*")
		items = append(items, x)
	}
	if !lineForm.MatchString(line) {
		faults = append(faults, fault(api.ErrSyntax, end))
	}
	if len(faults) > 0 {
		return nil, slices.MinFunc(faults, func(a, b api.Fault) int { return a.At - b.At })
	}
	return items, api.Fault{}
}

// checkParse checks the result of Parse for a line, and that the items of one without a fault are proper.
func checkParse(t *testing.T, line string) {
	t.Helper()
	items, f := Parse(line)
	if want, g := expected(line); f != g || !slices.Equal(items, want) {
		t.Errorf("Parse(%q): %v, %v; want %v, %v", line, items, f, want, g)
	}
	if e := Check(items); e != api.OK {
		t.Errorf("Check of the items of %q: %d", line, e)
	}
}

// shortLines returns all lines of at most so many bytes.
func shortLines(length int) []string {
	list, from := []string{""}, 0
	for range length {
		behind := len(list)
		for _, line := range list[from:behind] {
			for _, c := range "a1+ <?*-" {
				list = append(list, line+string(c))
			}
		}
		from = behind
	}
	return list
}

func TestParseOfShortLines(t *testing.T) {
	for _, line := range shortLines(6) {
		checkParse(t, line)
	}
}

func TestParseOfAllBytes(t *testing.T) {
	for c := range 256 {
		sign := string([]byte{byte(c)})
		for _, line := range []string{"_", "_3A", "3A_", "3A_2T", "3A _", "3A _2T", "3A+_", "3A+_2T", "3A<_", "3A<_2T", "3A?_ 2T", "3A*_+2T", "3A<?*_", "33_", "3A ?_"} {
			checkParse(t, strings.ReplaceAll(line, "_", sign))
		}
	}
}

func TestParseOfCodes(t *testing.T) {
	for n := range 12 {
		for _, code := range []string{strings.Repeat("a", n), strings.Repeat("Z", n), strings.Repeat("1", n), "a" + strings.Repeat("1", n), strings.Repeat("9", n) + "z"} {
			for _, line := range []string{"_", " _ ", "3A+_", "3A+_+3A", "3A _-", "_<_", "_<< _", "_+", "_ +"} {
				checkParse(t, strings.ReplaceAll(line, "_", code))
			}
		}
	}
}

func TestParseAtTheLimits(t *testing.T) {
	for n := 28; n < 33; n++ {
		for _, before := range []string{"a ", "a+", "a<+", "a?   ", "1b*+"} {
			for _, behind := range []string{"", " ", "b", "33", "333333333 ", "+", "-", "<", "?", "b-", "33-", "b??", "b 33"} {
				checkParse(t, strings.Repeat(before, n)+behind)
			}
		}
	}
	for n := 7; n < 13; n++ {
		down := strings.Repeat("<", n)
		for _, line := range []string{"a_", "a?_", "a_?", "a?_?", "a*_*", "a_ b_", "a_-", "a_+", "a<?<*_", "a_a", "a<b_", " _"} {
			checkParse(t, strings.ReplaceAll(line, "_", down))
		}
	}
}

func TestParseOfLongLines(t *testing.T) {
	const n = 1 << 20
	blanks, letters, digits := strings.Repeat(" ", n), strings.Repeat("a", n), strings.Repeat("1", n)
	for _, c := range []struct {
		line string
		n    int
		want api.Fault
	}{
		{blanks, 0, api.Fault{}},
		{blanks + "a", 1, api.Fault{}},
		{"a" + blanks + "b" + blanks, 2, api.Fault{}},
		{"a" + blanks + "+b", 0, fault(api.ErrSyntax, n+1)},
		{letters, 0, fault(api.ErrName, 0)},
		{"a+" + letters + "-", 0, fault(api.ErrName, 2)},
		{"a " + digits + "?", 0, fault(api.ErrName, 2)},
		{"a" + strings.Repeat("<", n), 0, fault(api.ErrLimit, 10)},
		{strings.Repeat("a ", n), 0, fault(api.ErrLimit, 60)},
		{strings.Repeat("a+", n), 0, fault(api.ErrLimit, 60)},
	} {
		if items, f := Parse(c.line); len(items) != c.n || f != c.want {
			t.Errorf("a long line: %d items, %v; want %d, %v", len(items), f, c.n, c.want)
		}
	}
}

// randomLine returns a line with the form of one, and perhaps another byte in it.
func randomLine(random *rand.Rand) string {
	var line strings.Builder
	draw := func(list ...string) string { return list[random.Intn(len(list))] }
	line.WriteString(draw("", "", " ", "  "))
	for range random.Intn(34) {
		line.WriteString(draw("3A", "2T", "FUSSp4", "a", "CSp", "ABCDEFG8"))
		for range random.Intn(3) {
			line.WriteString(draw("<", "<", "<<", "<<<<", "?", "*"))
		}
		line.WriteString(draw("+", "+", " ", " ", "   "))
	}
	s := line.String()
	if random.Intn(3) > 0 {
		s = strings.TrimRight(s, "+")
	}
	if random.Intn(3) > 0 {
		return s
	}
	at := random.Intn(len(s) + 1)
	return s[:at] + draw("<", "?", "*", "+", " ", "-", "1", "1234567", "\t", "\x00", "é") + s[at:]
}

func TestParseOfRandomLines(t *testing.T) {
	random := rand.New(rand.NewSource(190))
	for range 3000 {
		checkParse(t, randomLine(random))
	}
}

func TestParseOfExamples(t *testing.T) {
	want := []api.Item{{Code: "3A", Joined: true}, {Code: "2T", Down: 1, Review: true}, {Code: "FUSSp4", Void: true}}
	if items, f := Parse(" 3A+2T<?  FUSSp4* "); f != (api.Fault{}) || !slices.Equal(items, want) {
		t.Errorf("%v, %v", items, f)
	}
	for line, want := range map[string]api.Fault{
		"3A +2T":                         fault(api.ErrSyntax, 3),
		"3A+":                            fault(api.ErrSyntax, 3),
		"3A+ 2T":                         fault(api.ErrSyntax, 3),
		"33":                             fault(api.ErrName, 0),
		"3A??":                           fault(api.ErrTwice, 3),
		"3A-":                            fault(api.ErrSyntax, 2),
		"3A*<":                           {},
		"3A**":                           fault(api.ErrTwice, 3),
		"3A?*?":                          fault(api.ErrTwice, 4),
		"3A<<<<<<<<<<":                   fault(api.ErrLimit, 11),
		"3A ABCDEFGHI":                   fault(api.ErrName, 3),
		"3A+33-":                         fault(api.ErrName, 3),
		"3A\t2T":                         fault(api.ErrSyntax, 2),
		"+":                              fault(api.ErrSyntax, 0),
		"3A++2T":                         fault(api.ErrSyntax, 3),
		"3A<2T":                          fault(api.ErrSyntax, 3),
		strings.Repeat("a+", 30):         fault(api.ErrSyntax, 60),
		strings.Repeat("a+", 30) + "33":  fault(api.ErrLimit, 60),
		strings.Repeat("a ", 30) + "??":  fault(api.ErrSyntax, 60),
		strings.Repeat("a ", 30) + "  b": fault(api.ErrLimit, 62),
		strings.Repeat("a ", 30):         {},
		"":                               {},
	} {
		if items, f := Parse(line); f != want || f.Code != api.OK && items != nil {
			t.Errorf("Parse(%q): %v, %v", line, items, f)
		}
	}
}
