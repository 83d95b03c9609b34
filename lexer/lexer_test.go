package lexer

import (
	"math"
	"math/big"
	"math/rand"
	"regexp"
	"slices"
	"strings"
	"testing"

	"salchow/api"
)

// The forms of the definitions.
var (
	gapForm    = regexp.MustCompile(`^(?:[ \t\n\r]|#[^\n]*)*`)
	runForm    = regexp.MustCompile(`^[A-Za-z0-9_.]+`)
	numberForm = regexp.MustCompile(`^(?:0|[1-9][0-9]*)(?:\.[0-9]{1,3})?$`)
	wordForm   = regexp.MustCompile(`^[A-Za-z0-9_]*[A-Za-z][A-Za-z0-9_]*$`)
	quotedForm = regexp.MustCompile(`^"[^"\n]*"`)
	titleForm  = regexp.MustCompile(`^[!#-~](?:[ !#-~]*[!#-~])?$`)
	signForm   = regexp.MustCompile(`^[-()+*/,=;{}]`)
)

// fault returns a fault.
func fault(code api.Errno, at int) api.Fault { return api.Fault{Code: code, At: at} }

// expected returns the result of Next according to the definitions.
func expected(src string, at int) (api.Token, int, api.Fault) {
	at += len(gapForm.FindString(src[at:]))
	rest := src[at:]
	run, quoted := runForm.FindString(rest), quotedForm.FindString(rest)
	switch {
	case rest == "":
		return api.Token{Kind: api.TokEnd, At: at}, at, api.Fault{}
	case numberForm.MatchString(run):
		value, _ := new(big.Rat).SetString(run)
		n := value.Mul(value, big.NewRat(1000, 1)).Num()
		if n.Cmp(big.NewInt(api.MaxNumber)) > 0 {
			return api.Token{}, 0, fault(api.ErrRange, at)
		}
		return api.Token{Kind: api.TokNumber, N: n.Int64(), At: at}, at + len(run), api.Fault{}
	case wordForm.MatchString(run):
		if len(run) > 32 {
			return api.Token{}, 0, fault(api.ErrLimit, at)
		}
		return api.Token{Kind: api.TokWord, Text: run, At: at}, at + len(run), api.Fault{}
	case quoted != "" && titleForm.MatchString(quoted[1:len(quoted)-1]):
		if len(quoted) > 40+2 {
			return api.Token{}, 0, fault(api.ErrLimit, at)
		}
		return api.Token{Kind: api.TokString, Text: quoted[1 : len(quoted)-1], At: at}, at + len(quoted), api.Fault{}
	case signForm.MatchString(rest):
		return api.Token{Kind: api.TokSign, Text: rest[:1], At: at}, at + 1, api.Fault{}
	}
	return api.Token{}, 0, fault(api.ErrSyntax, at)
}

// expectedTokens returns the result of Lex according to the definitions.
func expectedTokens(src string) ([]api.Token, api.Fault) {
	var list []api.Token
	for at := 0; ; {
		token, behind, f := expected(src, at)
		if f != (api.Fault{}) {
			return nil, f
		}
		list = append(list, token)
		if token.Kind == api.TokEnd {
			return list, f
		}
		at = behind
	}
}

// checkLex checks the result of Lex for a source that is not too long.
func checkLex(t *testing.T, src string) {
	t.Helper()
	got, f := Lex(src)
	if want, g := expectedTokens(src); f != g || !slices.Equal(got, want) {
		t.Errorf("Lex(%q): %v, %v; want %v, %v", src, got, f, want, g)
	}
}

// checkNext checks the results of Next for all offsets of a source that is not too long.
func checkNext(t *testing.T, src string) {
	t.Helper()
	for at := range len(src) + 1 {
		got, behind, f := Next(src, at)
		if want, k, g := expected(src, at); got != want || behind != k || f != g {
			t.Errorf("Next(%q, %d): %v, %d, %v; want %v, %d, %v", src, at, got, behind, f, want, k, g)
		}
	}
}

func TestShortSources(t *testing.T) {
	const bytes = "aZ01_.\"#\n ;!"
	list := []string{""}
	for range 5 {
		for _, src := range list {
			checkLex(t, src)
		}
		var longer []string
		for _, src := range list {
			for _, c := range bytes {
				longer = append(longer, src+string(c))
			}
		}
		list = longer
	}
	for i, src := range list {
		if i%7 == 0 {
			checkLex(t, src)
			checkNext(t, src)
		}
	}
}

func TestAllBytes(t *testing.T) {
	for c := range 256 {
		b := string([]byte{byte(c)})
		for _, src := range []string{b, "a" + b, b + "a", "1" + b, b + "1", "a" + b + "a", "1" + b + "1", "\"" + b + "\"", "\"a" + b + "\"", "\"" + b + "a\"", "\"a" + b + "a\"", "#" + b, "#" + b + ";", ";" + b + ";"} {
			checkLex(t, src)
			checkNext(t, src)
		}
	}
}

// pieces returns parts of sources: most of them tokens, some of them faults.
func pieces() []string {
	return []string{
		"element", "3Lz", "x_1", "_a", "A_", "a" + strings.Repeat("1", 31), "0", "7", "2.50", "10.125", "1000000", "\"Anna Bell\"", "\"#;\"", "\"'\"", "\"" + strings.Repeat("a", 40) + "\"",
		"(", ")", "+", "-", "*", "/", ",", "=", ";", "{", "}", " ", "  ", "\t", "\r\n", "\n", "# a \"jump\n", "#\n", "##!\n",
		"01", "1.", ".5", "_", "a.b", "1.2345", "1000000.001", "a" + strings.Repeat("1", 32), "\"", "\" a\"", "\"" + strings.Repeat("a", 41) + "\"", "!", "\x00", "\xff", "é",
	}
}

// composed returns a source of so many pieces; it is without a fault more often if few of its pieces have one.
func composed(random *rand.Rand, length int) string {
	all := pieces()
	most := len(all)
	if random.Intn(3) > 0 {
		most = slices.Index(all, "01")
	}
	var src strings.Builder
	for range length {
		src.WriteString(all[random.Intn(most)])
		if random.Intn(2) == 0 {
			src.WriteString(" ")
		}
	}
	return src.String()
}

func TestComposedSources(t *testing.T) {
	random := rand.New(rand.NewSource(9))
	accepted := 0
	for range 3000 {
		src := composed(random, random.Intn(20))
		checkLex(t, src)
		checkNext(t, src)
		if _, f := Lex(src); f == (api.Fault{}) {
			accepted++
		}
	}
	if accepted < 300 {
		t.Errorf("only %d sources are accepted", accepted)
	}
}

func TestNextGivesTheTokensOfLex(t *testing.T) {
	random := rand.New(rand.NewSource(10))
	for range 1000 {
		src := composed(random, random.Intn(20))
		var list []api.Token
		at := 0
		for {
			token, behind, f := Next(src, at)
			if f != (api.Fault{}) {
				if got, g := Lex(src); len(got) != 0 || g != f {
					t.Errorf("Lex(%q): %v, %v; want the fault %v", src, got, g, f)
				}
				break
			}
			list, at = append(list, token), behind
			if token.Kind == api.TokEnd {
				if got, g := Lex(src); g != (api.Fault{}) || !slices.Equal(got, list) {
					t.Errorf("Lex(%q): %v, %v; want %v", src, got, g, list)
				}
				break
			}
		}
	}
}

func TestExampleOfTokens(t *testing.T) {
	want := []api.Token{
		{Kind: api.TokWord, Text: "element"}, {Kind: api.TokWord, Text: "3Lz", At: 8}, {Kind: api.TokWord, Text: "value", At: 12}, {Kind: api.TokNumber, N: 2500, At: 18}, {Kind: api.TokSign, Text: ";", At: 22}, {Kind: api.TokEnd, At: 23},
	}
	if got, f := Lex("element 3Lz value 2.50;"); f != (api.Fault{}) || !slices.Equal(got, want) {
		t.Errorf("%v, %v", got, f)
	}
}

func TestNumbers(t *testing.T) {
	for src, want := range map[string]int64{
		"0": 0, "0.0": 0, "0.000": 0, "0.001": 1, "0.01": 10, "0.1": 100, "0.100": 100, "1": 1000, "1.05": 1050, "10": 10000, "999999.999": 999999999, "1000000": api.MaxNumber, "1000000.0": api.MaxNumber, "1000000.000": api.MaxNumber,
	} {
		if got, f := Lex(src); f != (api.Fault{}) || len(got) != 2 || got[0] != (api.Token{Kind: api.TokNumber, N: want}) {
			t.Errorf("%s: %v, %v", src, got, f)
		}
	}
}

func TestFaultsOfTokens(t *testing.T) {
	digits := strings.Repeat("9", 60000)
	letters := strings.Repeat("a", 60000)
	for src, want := range map[string]api.Errno{
		// Runs.
		"1.2345": api.ErrSyntax, "01": api.ErrSyntax, "00": api.ErrSyntax, "00.5": api.ErrSyntax, "1.": api.ErrSyntax, ".": api.ErrSyntax, ".5": api.ErrSyntax, "1.2.3": api.ErrSyntax, "1..2": api.ErrSyntax, "_": api.ErrSyntax, "__": api.ErrSyntax, "1_": api.ErrSyntax, "1_000": api.ErrSyntax, "1._5": api.ErrSyntax, "a.b": api.ErrSyntax, "a.": api.ErrSyntax, "1.5a": api.ErrSyntax, "1e5.0": api.ErrSyntax,
		"1000001": api.ErrRange, "1000000.001": api.ErrRange, "9223372036854775": api.ErrRange, "9223372036854775807": api.ErrRange, "18446744073709551616": api.ErrRange, "18446744073709552": api.ErrRange, digits: api.ErrRange, digits + ".999": api.ErrRange,
		digits + ".9999": api.ErrSyntax, "0" + digits: api.ErrSyntax, digits + ".": api.ErrSyntax, "1000001_": api.ErrSyntax,
		letters[:33]: api.ErrLimit, letters: api.ErrLimit, digits + "a": api.ErrLimit, letters[:32] + "_": api.ErrLimit, letters + ".": api.ErrSyntax, digits + "_": api.ErrSyntax,
		// Strings.
		"\"": api.ErrSyntax, "\"\"": api.ErrSyntax, "\"\"\"": api.ErrSyntax, "\"a": api.ErrSyntax, "\"a\n\"": api.ErrSyntax, "\"\n\"": api.ErrSyntax, "\"a\nb\"": api.ErrSyntax, "\" a\"": api.ErrSyntax, "\"a \"": api.ErrSyntax, "\" \"": api.ErrSyntax, "\"a\tb\"": api.ErrSyntax, "\"a\rb\"": api.ErrSyntax, "\"a\x7f\"": api.ErrSyntax, "\"\xc3\xa9\"": api.ErrSyntax,
		"\"" + letters[:41] + "\"": api.ErrLimit, "\"" + letters + "\"": api.ErrLimit, "\"" + letters: api.ErrSyntax, "\"" + letters + "\n\"": api.ErrSyntax,
		"\" " + letters[:40] + "\"": api.ErrSyntax, "\"" + letters[:40] + " \"": api.ErrSyntax, "\"" + letters[:40] + "\x1f\"": api.ErrSyntax, "\"" + letters[:39] + "\x80a\"": api.ErrSyntax, "\"a" + strings.Repeat(" ", 39) + "a\"": api.ErrLimit,
		// Other bytes.
		"!": api.ErrSyntax, "'": api.ErrSyntax, "[": api.ErrSyntax, "\x00": api.ErrSyntax, "\v": api.ErrSyntax, "\f": api.ErrSyntax, "\xff": api.ErrSyntax, "\xc2\xa0": api.ErrSyntax, "é": api.ErrSyntax,
	} {
		if got, f := Lex(src); len(got) != 0 || f != fault(want, 0) {
			t.Errorf("Lex(%.50q): %v, %v", src, got, f)
		}
		if got, f := Lex("a; # b\n " + src + " !"); len(got) != 0 || f != fault(want, 8) {
			t.Errorf("Lex of %.50q behind a word: %v, %v", src, got, f)
		}
		if got, behind, f := Next(src, 0); got != (api.Token{}) || behind != 0 || f != fault(want, 0) {
			t.Errorf("Next(%.50q): %v, %d, %v", src, got, behind, f)
		}
	}
}

func TestLongestTokens(t *testing.T) {
	for src, want := range map[string]api.Token{
		strings.Repeat("a", 32):                                 {Kind: api.TokWord, Text: strings.Repeat("a", 32)},
		strings.Repeat("1", 31) + "a":                           {Kind: api.TokWord, Text: strings.Repeat("1", 31) + "a"},
		"a" + strings.Repeat("_", 31):                           {Kind: api.TokWord, Text: "a" + strings.Repeat("_", 31)},
		"\"" + strings.Repeat("~", 40) + "\"":                   {Kind: api.TokString, Text: strings.Repeat("~", 40)},
		"\"a" + strings.Repeat(" ", 38) + "b\"":                 {Kind: api.TokString, Text: "a" + strings.Repeat(" ", 38) + "b"},
		"1000000":                                               {Kind: api.TokNumber, N: 1000000000},
		strings.Repeat("#\n", 32767) + "a" + "\n":               {Kind: api.TokWord, Text: "a", At: 65534},
		strings.Repeat("a", 32) + "#" + strings.Repeat("!", 90): {Kind: api.TokWord, Text: strings.Repeat("a", 32)},
	} {
		if got, f := Lex(src); f != (api.Fault{}) || len(got) != 2 || got[0] != want || got[1] != (api.Token{Kind: api.TokEnd, At: len(src)}) {
			t.Errorf("Lex(%.50q): %v, %v", src, got, f)
		}
	}
}

func TestLongSources(t *testing.T) {
	for _, piece := range []string{" ", ";", "#", "a ", "\"a\"", "1 ", "!", "\"", "#\n"} {
		longest := strings.Repeat(piece, api.MaxSource)[:api.MaxSource]
		checkLex(t, longest)
		for _, src := range []string{longest + " ", longest + longest} {
			if got, f := Lex(src); len(got) != 0 || f != fault(api.ErrLimit, api.MaxSource) {
				t.Errorf("Lex of %d bytes: %d tokens, %v", len(src), len(got), f)
			}
			for _, at := range []int{0, 1, len(src), len(src) + 1, -1, math.MinInt, math.MaxInt} {
				if got, behind, f := Next(src, at); got != (api.Token{}) || behind != 0 || f != fault(api.ErrLimit, api.MaxSource) {
					t.Errorf("Next of %d bytes at %d: %v, %d, %v", len(src), at, got, behind, f)
				}
			}
		}
	}
	longest := strings.Repeat(" ", api.MaxSource)
	if got, behind, f := Next(longest, 1); got != (api.Token{Kind: api.TokEnd, At: api.MaxSource}) || behind != api.MaxSource || f != (api.Fault{}) {
		t.Errorf("Next of the longest source: %v, %d, %v", got, behind, f)
	}
}

func TestNextAtOtherOffsets(t *testing.T) {
	for _, src := range []string{"", "a", "!", "a b"} {
		for _, at := range []int{-1, len(src) + 1, math.MinInt, math.MaxInt} {
			if got, behind, f := Next(src, at); got != (api.Token{}) || behind != 0 || f != fault(api.ErrArgument, 0) {
				t.Errorf("Next(%q, %d): %v, %d, %v", src, at, got, behind, f)
			}
		}
	}
	for _, c := range []struct {
		src    string
		at     int
		want   api.Token
		behind int
	}{
		{"", 0, api.Token{Kind: api.TokEnd}, 0},
		{"ab # c", 2, api.Token{Kind: api.TokEnd, At: 6}, 6},
		{"ab # c", 6, api.Token{Kind: api.TokEnd, At: 6}, 6},
		{"ab # c", 1, api.Token{Kind: api.TokWord, Text: "b", At: 1}, 2},
		{"ab # c", 4, api.Token{Kind: api.TokWord, Text: "c", At: 5}, 6},
		{"\"ab\"", 1, api.Token{Kind: api.TokWord, Text: "ab", At: 1}, 3},
		{"10.05", 3, api.Token{}, 0},
		{"10.05", 4, api.Token{Kind: api.TokNumber, N: 5000, At: 4}, 5},
		// The fault of a later token does not count.
		{"a !", 0, api.Token{Kind: api.TokWord, Text: "a"}, 1},
		{" ;01", 0, api.Token{Kind: api.TokSign, Text: ";", At: 1}, 2},
	} {
		f := api.Fault{}
		if c.behind == 0 && c.at > 0 {
			f = fault(api.ErrSyntax, c.at)
		}
		if got, behind, g := Next(c.src, c.at); got != c.want || behind != c.behind || g != f {
			t.Errorf("Next(%q, %d): %v, %d, %v", c.src, c.at, got, behind, g)
		}
	}
}

func TestResultsOfLexAreNew(t *testing.T) {
	a, _ := Lex("a 1;")
	b, _ := Lex("a 1;")
	want := slices.Clone(b)
	clear(a)
	_ = append(a[:1], api.Token{Kind: api.TokSign})
	if c, _ := Lex("a 1;"); !slices.Equal(b, want) || !slices.Equal(c, want) {
		t.Errorf("%v, %v", b, c)
	}
}

// lineAndColumn returns the line and the column of an offset by stepping through a source.
func lineAndColumn(src string, at int) (int, int) {
	line, column := 1, 1
	for i := 0; i < at && i < len(src); i++ {
		column++
		if src[i] == '\n' {
			line, column = line+1, 1
		}
	}
	return line, column
}

func TestPlace(t *testing.T) {
	random := rand.New(rand.NewSource(11))
	sources := []string{"", "\n", "a", "a\nb", "\n\n", "a\r\nb", "é\n\xffé", "a\n", strings.Repeat("ab\n", 40000)}
	for range 300 {
		sources = append(sources, composed(random, random.Intn(30)))
	}
	for _, src := range sources {
		offsets := []int{math.MinInt, -1, 0, 1, len(src) / 2, len(src) - 1, len(src), len(src) + 1, math.MaxInt}
		for range 20 {
			offsets = append(offsets, random.Intn(len(src)+1))
		}
		for _, at := range offsets {
			line, column := Place(src, at)
			if k, l := lineAndColumn(src, at); line != k || column != l {
				t.Errorf("Place(%.50q, %d): %d, %d; want %d, %d", src, at, line, column, k, l)
			}
		}
	}
	if line, column := Place("a\nb", 2); line != 2 || column != 1 {
		t.Errorf("the example: %d, %d", line, column)
	}
}
