package parser

import (
	"math/rand"
	"reflect"
	"regexp"
	"slices"
	"strings"
	"testing"

	"salchow/api"
	"salchow/lexer"
)

// fault returns a fault.
func fault(code api.Errno, at int) api.Fault { return api.Fault{Code: code, At: at} }

// word, number, title and symbol return tokens without offsets.
func word(s string) api.Token   { return api.Token{Kind: api.TokWord, Text: s} }
func number(n int64) api.Token  { return api.Token{Kind: api.TokNumber, N: n} }
func title(s string) api.Token  { return api.Token{Kind: api.TokString, Text: s} }
func symbol(s string) api.Token { return api.Token{Kind: api.TokSign, Text: s} }

// at returns a token with an offset.
func at(offset int, t api.Token) api.Token {
	t.At = offset
	return t
}

// tokens returns the tokens of a possible list of entries, with the offsets that the list has; those of delimiters are -1.
func tokens(list []api.Clause) []api.Token {
	var all []api.Token
	for _, c := range list {
		all = append(all, at(c.At, word(c.Word)))
		all = append(all, c.Atoms...)
		if c.Block {
			all = append(all, at(-1, symbol("{")))
			all = append(all, tokens(c.Kids)...)
			all = append(all, at(-1, symbol("}")))
		} else {
			all = append(all, at(-1, symbol(";")))
		}
	}
	return all
}

// sourceTokens returns the tokens of a source, in the form of tokens.
func sourceTokens(t *testing.T, source string) []api.Token {
	all, f := lexer.Lex(source)
	if f != (api.Fault{}) {
		t.Fatalf("Lex(%q): %v", source, f)
	}
	all = all[:len(all)-1]
	for i, token := range all {
		if token.Kind == api.TokSign && strings.Contains(";{}", token.Text) {
			all[i].At = -1
		}
	}
	return all
}

// The forms of entries in shapes: of an entry that has been read, E; and of the other tokens.
var (
	entryForm = regexp.MustCompile(`a[a1]*(?:;|\{E*\})`)
	listForm  = regexp.MustCompile(`^E*$`)
)

// accepted reports whether the grammar accepts tokens by their shape: a for a word, 1 for another atom, and delimiters.
func accepted(shape string) bool {
	for {
		shorter := entryForm.ReplaceAllString(shape, "E")
		if shorter == shape {
			return listForm.MatchString(shape)
		}
		shape = shorter
	}
}

// begins reports whether some source that the grammar accepts begins with tokens: what they begin can be ended by delimiters alone.
func begins(shape string) bool {
	for closed := range len(shape) + 1 {
		end := strings.Repeat("}", closed)
		if accepted(shape+end) || accepted(shape+";"+end) {
			return true
		}
	}
	return false
}

// shapeFault returns the code of the fault of tokens and the index of the one that has it, according to the definition.
func shapeFault(shape string) (api.Errno, int) {
	for i := range len(shape) {
		if !begins(shape[:i+1]) {
			return api.ErrSyntax, i
		}
		if shape[i] == '{' && strings.Count(shape[:i], "{")-strings.Count(shape[:i], "}") == 8 {
			return api.ErrLimit, i
		}
	}
	if !accepted(shape) {
		return api.ErrSyntax, len(shape)
	}
	return api.OK, 0
}

// checkParse checks the result of Parse for a source with tokens of one byte that have the given shape.
func checkParse(t *testing.T, source, shape string) {
	t.Helper()
	code, offset := shapeFault(shape)
	list, f := Parse(source)
	if f != fault(code, offset) || code != api.OK && len(list) > 0 {
		t.Errorf("Parse(%q): %v, %v; want %d at %d", source, list, f, code, offset)
	}
	if want := sourceTokens(t, source); code == api.OK && !slices.Equal(tokens(list), want) {
		t.Errorf("Parse(%q): %v; want %v", source, tokens(list), want)
	}
}

// shapes returns all sequences of at most so many tokens.
func shapes(most int) []string {
	all := []string{""}
	for begin := 0; most > 0; most-- {
		end := len(all)
		for _, shape := range all[begin:end] {
			for _, c := range "a1;{}" {
				all = append(all, shape+string(c))
			}
		}
		begin = end
	}
	return all
}

func TestAllShortSources(t *testing.T) {
	random := rand.New(rand.NewSource(20))
	const signs = "(=)+-*/,"
	for _, shape := range shapes(6) {
		// Signs need no blanks around them, so that the offset of a token is its index; two words would.
		source := []byte(strings.ReplaceAll(shape, "1", "+"))
		for i, c := range source {
			if c == '+' {
				source[i] = signs[random.Intn(len(signs))]
			}
		}
		if !strings.Contains(shape, "aa") {
			checkParse(t, string(source), shape)
		}
	}
}

func TestAllShortSourcesWithinBlocks(t *testing.T) {
	for _, shape := range shapes(5) {
		if strings.Contains(shape, "aa") {
			continue
		}
		for _, before := range []string{"a{a{a{a{a{a{", "a{a{a{a{a{a{a{", "a{a{a{a{a{a{a{a{", "a;a{a+{}a{;"} {
			all := strings.ReplaceAll(before+shape, "+", "1")
			checkParse(t, strings.ReplaceAll(before+shape, "1", "+"), all)
		}
	}
}

// spelled returns a source whose tokens have the given shape, with gaps between them, and their offsets, that of the end included.
func spelled(random *rand.Rand, shape string) (string, []int) {
	atoms := []string{"1", "2.50", "\"Anna Bell\"", "\";{}\"", "(", "+", "=", "0", "\"#\"", "*"}
	gaps := []string{" ", "\n", "\t ", " # ; } \" {\n", "#\n", "\r\n"}
	var source strings.Builder
	var offsets []int
	gap := func() {
		source.WriteString(gaps[random.Intn(len(gaps))])
	}
	for _, c := range shape {
		gap()
		offsets = append(offsets, source.Len())
		switch c {
		case 'a':
			source.WriteString([]string{"a", "jump", "3Lz", "entry_1"}[random.Intn(4)])
		case '1':
			source.WriteString(atoms[random.Intn(len(atoms))])
		default:
			source.WriteRune(c)
		}
	}
	gap()
	return source.String(), append(offsets, source.Len())
}

func TestLongerSources(t *testing.T) {
	random := rand.New(rand.NewSource(21))
	good := 0
	for range 20000 {
		// Pieces that fit more often than single tokens do.
		var shape strings.Builder
		for range random.Intn(14) {
			shape.WriteString([]string{"a;", "a1;", "aa11a;", "a{", "a1{", "a{}", "}", "}", "a", "1", ";", "{"}[random.Intn(8+random.Intn(5))])
		}
		source, offsets := spelled(random, shape.String())
		code, index := shapeFault(shape.String())
		want := fault(code, 0)
		if code != api.OK {
			want.At = offsets[index]
		}
		list, f := Parse(source)
		if f != want || code != api.OK && len(list) > 0 {
			t.Errorf("Parse(%q): %v, %v; want %v", source, list, f, want)
		}
		if code == api.OK {
			good++
			if all := sourceTokens(t, source); !slices.Equal(tokens(list), all) || Check(list) != api.OK {
				t.Errorf("Parse(%q): %v; want %v", source, tokens(list), all)
			}
		}
	}
	if good < 500 {
		t.Errorf("only %d sources are accepted", good)
	}
}

func TestExamples(t *testing.T) {
	list, f := Parse("group jump limit 3; segment free { count 7; }")
	want := []api.Clause{
		{Word: "group", Atoms: []api.Token{at(6, word("jump")), at(11, word("limit")), at(17, number(3000))}},
		{Word: "segment", At: 20, Atoms: []api.Token{at(28, word("free"))}, Block: true, Kids: []api.Clause{
			{Word: "count", At: 35, Atoms: []api.Token{at(41, number(7000))}},
		}},
	}
	if f != (api.Fault{}) || !reflect.DeepEqual(list, want) || Count(list) != 3 || Depth(list) != 1 {
		t.Errorf("%v, %v, %d, %d", list, f, Count(list), Depth(list))
	}
	for source, offset := range map[string]int{"group jump": 10, "; a;": 0, "a b }": 4, "a {": 3} {
		if list, f := Parse(source); len(list) != 0 || f != fault(api.ErrSyntax, offset) {
			t.Errorf("Parse(%q): %v, %v", source, list, f)
		}
	}
	list, f = Parse("score (a + 0.5) * b;")
	want = []api.Clause{{Word: "score", Atoms: []api.Token{
		at(6, symbol("(")), at(7, word("a")), at(9, symbol("+")), at(11, number(500)), at(14, symbol(")")), at(16, symbol("*")), at(18, word("b")),
	}}}
	if f != (api.Fault{}) || !reflect.DeepEqual(list, want) {
		t.Errorf("%v, %v", list, f)
	}
	eight := strings.Repeat("a{", 8) + strings.Repeat("}", 8)
	if list, f := Parse(eight); f != (api.Fault{}) || Count(list) != 8 || Depth(list) != 8 || Check(list) != api.OK {
		t.Errorf("eight blocks: %v, %v", list, f)
	}
	if list, f := Parse("a{" + eight + "}"); len(list) != 0 || f != fault(api.ErrLimit, 17) {
		t.Errorf("nine blocks: %v, %v", list, f)
	}
}

func TestSourcesWithoutEntries(t *testing.T) {
	for _, source := range []string{"", " ", "\n\t\r ", "# a;", "# {\n", strings.Repeat(" ", api.MaxSource)} {
		if list, f := Parse(source); len(list) != 0 || f != (api.Fault{}) {
			t.Errorf("Parse(%.20q): %v, %v", source, list, f)
		}
	}
}

func TestFirstFault(t *testing.T) {
	eight := strings.Repeat("a{", 8)
	for source, want := range map[string]api.Fault{
		// A fault of chapter 9 comes first, wherever it is.
		"} !":                                fault(api.ErrSyntax, 2),
		"a } 1000001":                        fault(api.ErrRange, 4),
		"a b \"" + "\n;":                     fault(api.ErrSyntax, 4),
		eight + "a{ 01":                      fault(api.ErrSyntax, 19),
		"; " + strings.Repeat("a", 33):       fault(api.ErrLimit, 2),
		strings.Repeat("}", api.MaxSource+1): fault(api.ErrLimit, api.MaxSource),
		// An entry begins with a word.
		"1;": fault(api.ErrSyntax, 0), "\"a\";": fault(api.ErrSyntax, 0), "= a;": fault(api.ErrSyntax, 0), "{": fault(api.ErrSyntax, 0), "a; {};": fault(api.ErrSyntax, 3), "a;;": fault(api.ErrSyntax, 2), "a{1;}": fault(api.ErrSyntax, 2), "a{};": fault(api.ErrSyntax, 3),
		// Blocks are closed once.
		"}": fault(api.ErrSyntax, 0), "a;}": fault(api.ErrSyntax, 2), "a{}}": fault(api.ErrSyntax, 3), "a{b}": fault(api.ErrSyntax, 3), "a{b;": fault(api.ErrSyntax, 4), "a{b{}": fault(api.ErrSyntax, 5),
		// The end of the source is behind blanks and comments.
		"a": fault(api.ErrSyntax, 1), "a  ": fault(api.ErrSyntax, 3), "a # ;": fault(api.ErrSyntax, 5), "a { b ; # }\n": fault(api.ErrSyntax, 12),
		// Blocks are limited behind entries only, and before what follows them.
		eight + "{": fault(api.ErrSyntax, 16), eight + "a 1{": fault(api.ErrLimit, 19), eight + "a{1}": fault(api.ErrLimit, 17), eight + "a;a;b{": fault(api.ErrLimit, 21), eight + "}a{}a{b{": fault(api.ErrLimit, 23), eight + "1{a{": fault(api.ErrSyntax, 16), "}" + eight + "a{": fault(api.ErrSyntax, 0),
	} {
		if list, f := Parse(source); len(list) != 0 || f != want {
			t.Errorf("Parse(%.50q): %v, %v; want %v", source, list, f, want)
		}
	}
}

func TestBlocksSideBySide(t *testing.T) {
	eight := strings.Repeat("a{", 8) + strings.Repeat("}", 8)
	if list, f := Parse(strings.Repeat(eight, 100)); f != (api.Fault{}) || Count(list) != 800 || Depth(list) != 8 {
		t.Errorf("%v", f)
	}
	most := strings.Repeat("a;", api.MaxSource/2)
	if list, f := Parse(most); f != (api.Fault{}) || len(list) != api.MaxSource/2 || Depth(list) != 0 {
		t.Errorf("%d entries, %v", len(list), f)
	}
	atoms := "a" + strings.Repeat("+", api.MaxSource-2) + ";"
	if list, f := Parse(atoms); f != (api.Fault{}) || len(list) != 1 || len(list[0].Atoms) != api.MaxSource-2 {
		t.Errorf("%d entries, %v", len(list), f)
	}
}

func TestOneSourceBehindAnother(t *testing.T) {
	random := rand.New(rand.NewSource(22))
	for range 500 {
		a, b := randomList(random, 3), randomList(random, 3)
		first, e := lexer.Join(tokens(a))
		second, g := lexer.Join(tokens(b))
		if e != api.OK || g != api.OK {
			t.Fatalf("Join: %d, %d", e, g)
		}
		// A comment ends at the line break.
		list, f := Parse(first + " # a {" + "\n" + second)
		if f != (api.Fault{}) || !Same(list, slices.Concat(a, b)) {
			t.Errorf("%q and %q: %v, %v", first, second, list, f)
		}
	}
}

func TestBeginningsOfSources(t *testing.T) {
	random := rand.New(rand.NewSource(23))
	for range 200 {
		list := randomList(random, 3)
		for n := range len(list) + 1 {
			source, _ := lexer.Join(tokens(list[:n]))
			if got, f := Parse(source); f != (api.Fault{}) || !Same(got, list[:n]) {
				t.Errorf("%q: %v, %v", source, got, f)
			}
		}
	}
}

func TestWrittenListsAreReadAgain(t *testing.T) {
	random := rand.New(rand.NewSource(24))
	for range 2000 {
		list := randomList(random, random.Intn(9))
		source, e := lexer.Join(tokens(list))
		if e != api.OK || Check(list) != api.OK {
			t.Fatalf("%v: %d, %d", list, e, Check(list))
		}
		if got, f := Parse(source); f != (api.Fault{}) || !Same(got, list) {
			t.Errorf("%q: %v, %v; want %v", source, got, f, list)
		}
	}
}

func TestEntriesShareNoMemory(t *testing.T) {
	const source = "a 1 2 { b 3; c 4 { d; } } e 5;"
	list, _ := Parse(source)
	other, _ := Parse(source)
	want, _ := Parse(source)
	_ = append(list[0].Atoms, number(9))
	_ = append(list[0].Kids[0].Atoms, number(9))
	_ = append(list[0].Kids, api.Clause{Word: "x"})
	if !reflect.DeepEqual(list, want) {
		t.Errorf("%v", list)
	}
	list[0].Atoms[0].N, list[0].Kids[1].Kids[0].Word = 7, "x"
	if !reflect.DeepEqual(other, want) {
		t.Errorf("%v", other)
	}
}
