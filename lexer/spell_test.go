package lexer

import (
	"math"
	"math/rand"
	"slices"
	"strconv"
	"strings"
	"testing"

	"salchow/api"
)

// possible returns tokens of all kinds, without offsets.
func possible() []api.Token {
	list := []api.Token{{Kind: api.TokEnd}}
	for _, text := range []string{"a", "Z", "3Lz", "a1", "1a", "_a", "a_", "1e5", strings.Repeat("x", 32), strings.Repeat("9", 31) + "x"} {
		list = append(list, api.Token{Kind: api.TokWord, Text: text})
	}
	for _, text := range []string{"a", "!", "~", "1.5", "#", ";", "Anna Bell", "a  b", "a.b", "'", "\\", strings.Repeat("x", 40), "a" + strings.Repeat(" ", 38) + "a"} {
		list = append(list, api.Token{Kind: api.TokString, Text: text})
	}
	for _, text := range strings.Split("()+-*/,=;{}", "") {
		list = append(list, api.Token{Kind: api.TokSign, Text: text})
	}
	for _, n := range []int64{0, 1, 10, 50, 100, 999, 1000, 1001, 1050, 2500, 3000, 10000, 123456789, 999999999, api.MaxNumber} {
		list = append(list, api.Token{Kind: api.TokNumber, N: n})
	}
	return list
}

// impossible returns tokens that no source has.
func impossible() []api.Token {
	list := []api.Token{{}, {Kind: 6}, {Kind: -1}, {Kind: math.MaxInt}, {Kind: math.MinInt}, {Text: "a"}, {Kind: 6, Text: "a"}, {Kind: 6, N: 1}}
	for _, text := range []string{"", "1", "12", "_", "1_", "a.b", "1.5", "a b", " a", "a ", "a-b", "é", "a\n", "\"a\"", ";", "\xff", strings.Repeat("x", 33), strings.Repeat("x", 1<<17)} {
		list = append(list, api.Token{Kind: api.TokWord, Text: text})
	}
	for _, text := range []string{"", " ", " a", "a ", "a\"b", "\"", "\"a\"", "a\nb", "a\tb", "a\rb", "\x1f", "\x7f", "é", "\xff", strings.Repeat("x", 41), strings.Repeat("x", 1<<17)} {
		list = append(list, api.Token{Kind: api.TokString, Text: text})
	}
	for _, text := range []string{"", "!", "#", "\"", "a", "1", "_", ".", " ", "\n", "()", ";;", "+ ", "[", "<", "\x00", "\xff", "×"} {
		list = append(list, api.Token{Kind: api.TokSign, Text: text})
	}
	for _, n := range []int64{-1, -1000, api.MaxNumber + 1, math.MaxInt64, math.MinInt64} {
		list = append(list, api.Token{Kind: api.TokNumber, N: n})
	}
	list = append(list, api.Token{Kind: api.TokNumber, Text: "1", N: 1000}, api.Token{Kind: api.TokNumber, Text: "1"}, api.Token{Kind: api.TokNumber, Text: "a"})
	list = append(list, api.Token{Kind: api.TokEnd, Text: "a"}, api.Token{Kind: api.TokEnd, Text: " "})
	for _, token := range possible() {
		if token.Kind != api.TokNumber {
			for _, n := range []int64{1, -1, math.MaxInt64} {
				token.N = n
				list = append(list, token)
			}
		}
	}
	return list
}

// offsets are offsets of tokens, most of which no source has.
var offsets = []int{0, 1, -1, api.MaxSource + 1, math.MinInt, math.MaxInt}

func TestPossibleTokens(t *testing.T) {
	for _, token := range possible() {
		for _, at := range offsets {
			token.At = at
			src, e := Spell(token)
			if !Valid(token) || e != api.OK {
				t.Errorf("%v: %v, %q, %d", token, Valid(token), src, e)
			}
			token.At = 0
			want := []api.Token{token, {Kind: api.TokEnd, At: len(src)}}
			if token.Kind == api.TokEnd {
				want = want[:1]
			}
			if got, f := Lex(src); f != (api.Fault{}) || !slices.Equal(got, want) {
				t.Errorf("Lex(%q): %v, %v; want %v", src, got, f, want)
			}
		}
	}
}

func TestImpossibleTokens(t *testing.T) {
	for _, token := range impossible() {
		for _, at := range offsets {
			token.At = at
			if s, e := Spell(token); Valid(token) || s != "" || e != api.ErrArgument {
				t.Errorf("%.100v: %v, %q, %d", token, Valid(token), s, e)
			}
			for _, list := range [][]api.Token{{token}, {{Kind: api.TokSign, Text: ";"}, token}, {token, {Kind: api.TokEnd}}} {
				if s, e := Join(list); s != "" || e != api.ErrArgument {
					t.Errorf("Join(%.100v): %q, %d", list, s, e)
				}
			}
		}
	}
}

func TestValidByAllBytes(t *testing.T) {
	for c := range 256 {
		b := string([]byte{byte(c)})
		for _, text := range []string{b, b + "a", "a" + b, "a" + b + "a"} {
			for kind, spelled := range map[int]string{api.TokWord: text, api.TokString: "\"" + text + "\"", api.TokSign: text} {
				got, f := Lex(spelled)
				want := f == (api.Fault{}) && len(got) == 2 && got[0] == api.Token{Kind: kind, Text: text}
				if token := (api.Token{Kind: kind, Text: text}); Valid(token) != want {
					t.Errorf("Valid(%v) is not %v", token, want)
				}
			}
		}
	}
}

func TestSpellings(t *testing.T) {
	for want, token := range map[string]api.Token{
		"":               {Kind: api.TokEnd, At: 7},
		"2.5":            {Kind: api.TokNumber, N: 2500},
		"3":              {Kind: api.TokNumber, N: 3000, At: 3},
		"1.05":           {Kind: api.TokNumber, N: 1050},
		"0.001":          {Kind: api.TokNumber, N: 1},
		"3Lz":            {Kind: api.TokWord, Text: "3Lz"},
		";":              {Kind: api.TokSign, Text: ";"},
		"\"Anna  Bell\"": {Kind: api.TokString, Text: "Anna  Bell"},
		"\"2.50\"":       {Kind: api.TokString, Text: "2.50"},
	} {
		if got, e := Spell(token); got != want || e != api.OK {
			t.Errorf("Spell(%v): %q, %d; want %q", token, got, e, want)
		}
	}
}

func TestSpellingsOfNumbers(t *testing.T) {
	random := rand.New(rand.NewSource(12))
	check := func(n int64) {
		// The shortest decimal fraction that determines a float of that size is the number itself.
		want := strconv.FormatFloat(float64(n)/1000, 'f', -1, 64)
		if got, e := Spell(api.Token{Kind: api.TokNumber, N: n}); got != want || e != api.OK {
			t.Errorf("Spell(%d): %q, %d; want %q", n, got, e, want)
		}
		if got, f := Lex(want); f != (api.Fault{}) || len(got) != 2 || got[0].N != n {
			t.Errorf("Lex(%q): %v, %v", want, got, f)
		}
	}
	for n := range int64(20000) {
		check(n)
		check(api.MaxNumber - n)
		check(random.Int63n(api.MaxNumber + 1))
	}
}

// withoutOffsets returns tokens without their offsets.
func withoutOffsets(tokens []api.Token) []api.Token {
	list := slices.Clone(tokens)
	for i := range list {
		list[i].At = 0
	}
	return list
}

func TestJoinedTokensAreReadAgain(t *testing.T) {
	random := rand.New(rand.NewSource(13))
	all := possible()[1:]
	for range 3000 {
		var tokens []api.Token
		var spellings []string
		for range random.Intn(12) {
			token := all[random.Intn(len(all))]
			s, _ := Spell(token)
			spellings = append(spellings, s)
			token.At = offsets[random.Intn(len(offsets))]
			tokens = append(tokens, token)
		}
		want := append(withoutOffsets(tokens), api.Token{Kind: api.TokEnd})
		if random.Intn(2) == 0 {
			tokens = append(tokens, api.Token{Kind: api.TokEnd, At: 5})
		}
		before := slices.Clone(tokens)
		src, e := Join(tokens)
		if e != api.OK || src != strings.Join(spellings, " ") || !slices.Equal(tokens, before) {
			t.Errorf("Join(%v): %q, %d", before, src, e)
		}
		if got, f := Lex(src); f != (api.Fault{}) || !slices.Equal(withoutOffsets(got), want) {
			t.Errorf("Lex(%q): %v, %v; want %v", src, got, f, want)
		}
	}
}

func TestJoin(t *testing.T) {
	word, end := api.Token{Kind: api.TokWord, Text: "a"}, api.Token{Kind: api.TokEnd}
	for _, c := range []struct {
		list []api.Token
		want string
		e    api.Errno
	}{
		{nil, "", api.OK},
		{[]api.Token{}, "", api.OK},
		{[]api.Token{end}, "", api.OK},
		{[]api.Token{word}, "a", api.OK},
		{[]api.Token{word, end}, "a", api.OK},
		{[]api.Token{word, word, end}, "a a", api.OK},
		{[]api.Token{word, {Kind: api.TokSign, Text: ";"}, {Kind: api.TokNumber, N: 2500}, {Kind: api.TokString, Text: "b"}}, "a ; 2.5 \"b\"", api.OK},
		{[]api.Token{end, end}, "", api.ErrArgument},
		{[]api.Token{end, word}, "", api.ErrArgument},
		{[]api.Token{word, end, word, end}, "", api.ErrArgument},
		{[]api.Token{word, end, end}, "", api.ErrArgument},
		{[]api.Token{word, {}}, "", api.ErrArgument},
		{[]api.Token{{}, end}, "", api.ErrArgument},
	} {
		if got, e := Join(c.list); got != c.want || e != c.e {
			t.Errorf("Join(%v): %q, %d", c.list, got, e)
		}
	}
}

func TestLongJoin(t *testing.T) {
	word, end := api.Token{Kind: api.TokWord, Text: "abc"}, api.Token{Kind: api.TokEnd}
	longest := slices.Repeat([]api.Token{word}, 1<<14)
	longest[0].Text = "abcd" // 2^14 words of three letters have one byte less than 2^16, with the blanks between them
	for _, list := range [][]api.Token{longest, append(slices.Clone(longest), end)} {
		src, e := Join(list)
		if e != api.OK || len(src) != api.MaxSource {
			t.Errorf("Join: %d bytes, %d", len(src), e)
		}
		if got, f := Lex(src); f != (api.Fault{}) || !slices.Equal(withoutOffsets(got), append(slices.Clone(longest), end)) {
			t.Errorf("Lex: %d tokens, %v", len(got), f)
		}
	}
	longer := slices.Clone(longest)
	longer[1].Text = "abcd"
	for _, list := range [][]api.Token{longer, append(slices.Clone(longer), end), append(slices.Clone(longest), word), slices.Repeat(longest, 20)} {
		if src, e := Join(list); src != "" || e != api.ErrLimit {
			t.Errorf("Join of %d tokens: %d bytes, %d", len(list), len(src), e)
		}
		for _, last := range [][]api.Token{{{}}, {end, word}, {word, {Kind: api.TokSign, Text: "!"}}} {
			if src, e := Join(append(slices.Clone(list), last...)); src != "" || e != api.ErrArgument {
				t.Errorf("Join of %d tokens and %v: %d bytes, %d", len(list), last, len(src), e)
			}
		}
	}
}
