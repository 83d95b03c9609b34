package printer

import (
	"math/rand"
	"reflect"
	"slices"
	"strings"
	"testing"

	"salchow/api"
	"salchow/lexer"
	"salchow/parser"
)

// word, number, title and symbol return tokens without offsets.
func word(s string) api.Token   { return api.Token{Kind: api.TokWord, Text: s} }
func number(n int64) api.Token  { return api.Token{Kind: api.TokNumber, N: n} }
func title(s string) api.Token  { return api.Token{Kind: api.TokString, Text: s} }
func symbol(s string) api.Token { return api.Token{Kind: api.TokSign, Text: s} }

// spelled are atoms with their spellings.
var spelled = []struct {
	atom api.Token
	text string
}{
	{word("a"), "a"}, {word("3Lz"), "3Lz"}, {word("min"), "min"}, {number(0), "0"}, {number(2500), "2.5"}, {number(api.MaxNumber), "1000000"}, {number(5), "0.005"},
	{title("Anna Bell"), `"Anna Bell"`}, {title("("), `"("`}, {title(")"), `")"`}, {title(","), `","`}, {title("{ ; }"), `"{ ; }"`},
	{symbol("("), "("}, {symbol(")"), ")"}, {symbol("+"), "+"}, {symbol("-"), "-"}, {symbol("*"), "*"}, {symbol("/"), "/"}, {symbol(","), ","}, {symbol("="), "="},
}

// copied returns a copy of a list that shares no memory with it.
func copied(list []api.Clause) []api.Clause {
	var all []api.Clause
	for _, c := range list {
		c.Atoms, c.Kids = slices.Clone(c.Atoms), copied(c.Kids)
		all = append(all, c)
	}
	return all
}

// nested returns an entry without a block within so many blocks.
func nested(blocks int) []api.Clause {
	list := []api.Clause{{Word: "a"}}
	for range blocks {
		list = []api.Clause{{Word: "a", Block: true, Kids: list}}
	}
	return list
}

// drawn is a list of entries with its canonical lines.
type drawn struct {
	list  []api.Clause
	lines []string
}

// draw returns a possible list of at most the given depth with its lines, which are put together from spellings at the same time.
func draw(random *rand.Rand, depth int) drawn {
	var all drawn
	for range random.Intn(4) {
		name := []string{"a", "group", "3Lz_"}[random.Intn(3)]
		c := api.Clause{Word: name, At: random.Intn(9) - 4}
		line := name + " "
		for range random.Intn(6) {
			s := spelled[random.Intn(len(spelled))]
			atom := s.atom
			atom.At = random.Intn(9) - 4
			if len(c.Atoms) > 0 && atom.Kind == api.TokSign && (s.text == ")" || s.text == ",") {
				line = strings.TrimSuffix(line, " ")
			}
			line += s.text
			if atom.Kind != api.TokSign || s.text != "(" {
				line += " "
			}
			c.Atoms = append(c.Atoms, atom)
		}
		c.Block = depth > 0 && random.Intn(2) == 0
		if !c.Block {
			all.list = append(all.list, c)
			all.lines = append(all.lines, strings.TrimSuffix(line, " ")+";")
			continue
		}
		kids := draw(random, depth-1)
		c.Kids = kids.list
		all.list = append(all.list, c)
		all.lines = append(all.lines, strings.TrimSuffix(line, " ")+" {")
		for _, l := range kids.lines {
			all.lines = append(all.lines, "  "+l)
		}
		all.lines = append(all.lines, "}")
	}
	return all
}

// source returns the lines with their ends.
func (d drawn) source() string {
	var all strings.Builder
	for _, line := range d.lines {
		all.WriteString(line + "\n")
	}
	return all.String()
}

func TestExamples(t *testing.T) {
	const source = "group jump limit 3;segment free{count 7 ;score min(a,2.50)*( b );}"
	const want = `group jump limit 3;
segment free {
  count 7;
  score min (a, 2.5) * (b);
}
`
	if got, f := Normalize(source); got != want || f != (api.Fault{}) {
		t.Errorf("Normalize: %q, %v", got, f)
	}
	list, f := parser.Parse(source)
	if f != (api.Fault{}) {
		t.Fatal(f)
	}
	if n, e := Lines(list); n != 5 || e != api.OK {
		t.Errorf("Lines: %d, %d", n, e)
	}
	if got, e := Print(list); got != want || e != api.OK {
		t.Errorf("Print: %q, %d", got, e)
	}
	for c, want := range map[*api.Clause]string{&list[0]: "group jump limit 3;", &list[1]: "segment free {", &list[1].Kids[0]: "count 7;", &list[1].Kids[1]: "score min (a, 2.5) * (b);"} {
		if got, e := Line(*c); got != want || e != api.OK {
			t.Errorf("Line: %q, %d; want %q", got, e, want)
		}
	}
	for _, source := range []string{"", "  \n\t", "# a;"} {
		if got, f := Normalize(source); got != "" || f != (api.Fault{}) {
			t.Errorf("Normalize(%q): %q, %v", source, got, f)
		}
	}
	for _, list := range [][]api.Clause{nil, {}} {
		got, e := Print(list)
		n, g := Lines(list)
		if got != "" || e != api.OK || n != 0 || g != api.OK {
			t.Errorf("without entries: %q, %d, %d, %d", got, e, n, g)
		}
	}
}

func TestBlanksBetweenAtoms(t *testing.T) {
	for _, x := range spelled {
		// A blank stands in front of the first atom, whatever it is.
		if got, e := Line(api.Clause{Word: "w", Atoms: []api.Token{x.atom}}); got != "w "+x.text+";" || e != api.OK {
			t.Errorf("%q, %d", got, e)
		}
		if got, e := Line(api.Clause{Word: "w", Atoms: []api.Token{x.atom}, Block: true}); got != "w "+x.text+" {" || e != api.OK {
			t.Errorf("%q, %d", got, e)
		}
		for _, y := range spelled {
			gap := " "
			if x.atom == symbol("(") || y.atom == symbol(")") || y.atom == symbol(",") {
				gap = ""
			}
			want := "w 7 " + x.text + gap + y.text + ";"
			if x.atom == symbol(")") || x.atom == symbol(",") {
				want = "w 7" + x.text + gap + y.text + ";"
			}
			if got, e := Line(api.Clause{Word: "w", Atoms: []api.Token{number(7000), x.atom, y.atom}}); got != want || e != api.OK {
				t.Errorf("%q, %d; want %q", got, e, want)
			}
		}
	}
	for source, want := range map[string]string{
		"a;": "a;\n", "a{}": "a {\n}\n", "a(((b)));": "a (((b)));\n", "a)(,,(;": "a ) (,, (;\n", "a(,);": "a (,);\n", "a - - 1;": "a - - 1;\n", "a (-1)=b;": "a (- 1) = b;\n", "a\"(\"b\")\";": "a \"(\" b \")\";\n",
		"a{b{}c;}d;": "a {\n  b {\n  }\n  c;\n}\nd;\n", "a(){b;}": "a () {\n  b;\n}\n", "a 7{# c\nb # d;\n;}": "a 7 {\n  b;\n}\n",
	} {
		if got, f := Normalize(source); got != want || f != (api.Fault{}) {
			t.Errorf("Normalize(%q): %q, %v; want %q", source, got, f, want)
		}
	}
}

func TestLineDoesNotDependOnKidsOrOffsets(t *testing.T) {
	c := api.Clause{Word: "a", Atoms: []api.Token{{Kind: api.TokWord, Text: "b", At: -9}}, Block: true, Kids: nested(7), At: 1 << 40}
	if got, e := Line(c); got != "a b {" || e != api.OK {
		t.Errorf("%q, %d", got, e)
	}
	if got, e := Print([]api.Clause{c}); !strings.HasPrefix(got, "a b {\n  a {\n    a {\n") || !strings.HasSuffix(got, "\n    }\n  }\n}\n") || e != api.OK {
		t.Errorf("%q, %d", got, e)
	}
}

func TestRandomLists(t *testing.T) {
	random := rand.New(rand.NewSource(30))
	printed := 0
	for range 3000 {
		d := draw(random, random.Intn(9))
		before := copied(d.list)
		want := d.source()
		n, e := Lines(d.list)
		if n != len(d.lines) || e != api.OK {
			t.Errorf("Lines of %q: %d, %d", want, n, e)
		}
		if len(want) > api.MaxSource {
			continue
		}
		printed++
		got, e := Print(d.list)
		if got != want || e != api.OK {
			t.Errorf("Print: %q, %d; want %q", got, e, want)
		}
		list, f := parser.Parse(got)
		if f != (api.Fault{}) || !parser.Same(list, d.list) {
			t.Errorf("%q is read as %v, %v", got, list, f)
		}
		if again, f := Normalize(got); again != got || f != (api.Fault{}) {
			t.Errorf("Normalize(%q): %q, %v", got, again, f)
		}
		if !reflect.DeepEqual(copied(d.list), before) {
			t.Errorf("the list has changed: %v", d.list)
		}
	}
	if printed < 2000 {
		t.Errorf("only %d lists were printed", printed)
	}
}

// count returns the numbers of entries and of blocks, by the definition.
func count(list []api.Clause) (int, int) {
	entries, blocks := len(list), 0
	for _, c := range list {
		if c.Block {
			blocks++
		}
		e, b := count(c.Kids)
		entries, blocks = entries+e, blocks+b
	}
	return entries, blocks
}

func TestConsequences(t *testing.T) {
	random := rand.New(rand.NewSource(31))
	for range 1000 {
		a, b := draw(random, 3), draw(random, 3)
		entries, blocks := count(a.list)
		if n, e := Lines(a.list); n != entries+blocks || e != api.OK {
			t.Errorf("Lines: %d, %d; want %d", n, e, entries+blocks)
		}
		both, e := Print(slices.Concat(a.list, b.list))
		if both != a.source()+b.source() || e != api.OK {
			t.Errorf("Print of two lists: %q, %d", both, e)
		}
		// Two accepted sources are equal exactly if their canonical sources are.
		other := loose(random, a.list)
		if !Equal(a.source(), other) || !Equal(other, a.source()) {
			t.Errorf("Equal(%q, %q)", a.source(), other)
		}
		if got, f := Normalize(other); got != a.source() || f != (api.Fault{}) {
			t.Errorf("Normalize(%q): %q, %v", other, got, f)
		}
		if want := a.source() == b.source(); Equal(a.source(), b.source()) != want || Equal(other, b.source()) != want {
			t.Errorf("Equal(%q, %q)", a.source(), b.source())
		}
	}
}

// loose returns a source of a list with blanks and comments of any kind between the tokens.
func loose(random *rand.Rand, list []api.Clause) string {
	gap := func() string {
		return []string{" ", "\n", "  \t", "\r\n", "# } ;\n", " # a\n\n "}[random.Intn(6)]
	}
	var source strings.Builder
	for _, c := range list {
		source.WriteString(gap() + c.Word)
		for _, atom := range c.Atoms {
			spelling, _ := lexer.Spell(atom)
			source.WriteString(gap() + spelling)
		}
		if c.Block {
			source.WriteString(gap() + "{" + loose(random, c.Kids) + gap() + "}" + gap())
		} else {
			source.WriteString(gap() + ";" + gap())
		}
	}
	return source.String()
}

func TestEqual(t *testing.T) {
	sources := []string{"", "a;", "b;", "a{}", "a;a;", "a b;", "a \"b\";", "a 1;", "a 2;", "a{b;}", "a{b;}c;", "a{b;c;}", "a+b;", "a{b{}}", "a b{}"}
	for i, a := range sources {
		for k, b := range sources {
			if Equal(a, b) != (i == k) || Equal(" "+a+"#\n", b) != (i == k) {
				t.Errorf("Equal(%q, %q): %v", a, b, Equal(a, b))
			}
		}
	}
	for _, pair := range [][2]string{{"a 2.50;", "a 2.5;"}, {"a 3.000;", "a 3;"}, {"a(b);", "a ( b ) ;"}} {
		if !Equal(pair[0], pair[1]) || !Equal(pair[1], pair[0]) {
			t.Errorf("Equal(%q, %q)", pair[0], pair[1])
		}
	}
	// A source that is not accepted is not equal to itself.
	for _, bad := range []string{"a", "a {", "!", "1;", "a}", "a 01;", strings.Repeat(" ", api.MaxSource+1), strings.Repeat("a{", 9) + strings.Repeat("}", 9)} {
		if Equal(bad, bad) || Equal(bad, "") || Equal("", bad) || Equal(bad, "a;") || Equal("a;", bad) {
			t.Errorf("Equal of %.20q", bad)
		}
	}
	// There is no bound of the canonical sources here.
	deep := strings.Repeat("a{", 8) + strings.Repeat("a;", 30000) + strings.Repeat("}", 8)
	if _, f := Normalize(deep); f.Code != api.ErrLimit || !Equal(deep, "\n"+deep) || Equal(deep, deep+"a;") {
		t.Error("Equal of sources whose canonical sources are too long")
	}
}

func TestErrorsOfLists(t *testing.T) {
	good := api.Clause{Word: "b", Atoms: []api.Token{number(1)}}
	for _, c := range []api.Clause{
		{}, {Word: "1"}, {Word: "a b"}, {Word: "a", Kids: []api.Clause{good}}, {Word: "a", Atoms: []api.Token{{}}}, {Word: "a", Atoms: []api.Token{symbol(";")}}, {Word: "a", Atoms: []api.Token{symbol("{")}}, {Word: "a", Atoms: []api.Token{symbol("}")}}, {Word: "a", Atoms: []api.Token{{Kind: api.TokEnd}}}, {Word: "a", Atoms: []api.Token{number(-1)}}, {Word: "a", Atoms: []api.Token{title("\"")}}, {Word: strings.Repeat("a", 33), Block: true}, {Word: "a", Block: true, Kids: []api.Clause{good, {}}},
		// ErrSyntax comes before the depth and before the length.
		{Word: "a", Block: true, Kids: append(nested(9), api.Clause{})}, {Word: "", Atoms: slices.Repeat([]api.Token{word("a")}, api.MaxSource)},
	} {
		checkErrors(t, []api.Clause{c}, api.ErrSyntax)
		checkErrors(t, []api.Clause{good, c}, api.ErrSyntax)
		checkErrors(t, []api.Clause{c, good}, api.ErrSyntax)
		if line, e := Line(c); line != "" || e != api.ErrSyntax {
			t.Errorf("Line(%v): %q, %d", c, line, e)
		}
	}
	for blocks, want := range map[int]api.Errno{8: api.OK, 9: api.ErrLimit, 10: api.ErrLimit} {
		list := nested(blocks)
		if want != api.OK {
			checkErrors(t, list, want)
			checkErrors(t, append([]api.Clause{good}, list...), want)
		}
		if line, e := Line(list[0]); e != want || (line == "a {") != (want == api.OK) || want != api.OK && line != "" {
			t.Errorf("Line of %d blocks: %q, %d", blocks, line, e)
		}
		if n, e := Lines(list); e != want || want == api.OK && n != 17 {
			t.Errorf("Lines of %d blocks: %d, %d", blocks, n, e)
		}
	}
}

// checkErrors checks that Print and Lines return an error.
func checkErrors(t *testing.T, list []api.Clause, want api.Errno) {
	t.Helper()
	if source, e := Print(list); source != "" || e != want {
		t.Errorf("Print(%v): %q, %d; want %d", list, source, e, want)
	}
	if n, e := Lines(list); n != 0 || e != want {
		t.Errorf("Lines(%v): %d, %d; want %d", list, n, e, want)
	}
}

// long returns a list whose canonical source has so many bytes, at least 3.
func long(bytes int) []api.Clause {
	last := 3 + bytes%3 // the bytes of the last line; all others have 3
	list := slices.Repeat([]api.Clause{{Word: "a"}}, (bytes-last)/3)
	return append(list, api.Clause{Word: strings.Repeat("a", last-2)})
}

func TestLengthOfPrint(t *testing.T) {
	for bytes, want := range map[int]api.Errno{3: api.OK, 4: api.OK, 5: api.OK, 1000: api.OK, api.MaxSource - 1: api.OK, api.MaxSource: api.OK, api.MaxSource + 1: api.ErrLimit, api.MaxSource + 2: api.ErrLimit, 3 * api.MaxSource: api.ErrLimit} {
		list := long(bytes)
		source, e := Print(list)
		if e != want || want == api.OK && len(source) != bytes || want != api.OK && source != "" {
			t.Errorf("Print: %d bytes, %d; want %d bytes, %d", len(source), e, bytes, want)
		}
		if n, e := Lines(list); n != len(list) || e != api.OK {
			t.Errorf("Lines of %d entries: %d, %d", len(list), n, e)
		}
	}
	// The last line, of a brace, counts like the others.
	for bytes, want := range map[int]api.Errno{api.MaxSource: api.OK, api.MaxSource + 1: api.ErrLimit} {
		list := append(long(bytes-6), api.Clause{Word: "b", Block: true})
		if source, e := Print(list); e != want || want == api.OK && len(source) != bytes {
			t.Errorf("Print: %d bytes, %d; want %d bytes, %d", len(source), e, bytes, want)
		}
	}
	// A line alone has no bound.
	c := api.Clause{Word: "a", Atoms: slices.Repeat([]api.Token{word("b")}, api.MaxSource)}
	if line, e := Line(c); len(line) != 2*api.MaxSource+2 || e != api.OK {
		t.Errorf("Line: %d bytes, %d", len(line), e)
	}
	if source, e := Print([]api.Clause{c}); source != "" || e != api.ErrLimit {
		t.Errorf("Print: %d bytes, %d", len(source), e)
	}
}

func TestFaultsOfNormalize(t *testing.T) {
	for source, want := range map[string]api.Fault{
		"a {": {Code: api.ErrSyntax, At: 3}, "a": {Code: api.ErrSyntax, At: 1}, ";": {Code: api.ErrSyntax}, "a; 1;": {Code: api.ErrSyntax, At: 3}, "a 1000001;": {Code: api.ErrRange, At: 2}, "a; !": {Code: api.ErrSyntax, At: 3}, strings.Repeat("a{", 9): {Code: api.ErrLimit, At: 17}, strings.Repeat(" ", api.MaxSource+1): {Code: api.ErrLimit, At: api.MaxSource},
	} {
		if got, f := Normalize(source); got != "" || f != want {
			t.Errorf("Normalize(%.20q): %q, %v; want %v", source, got, f, want)
		}
	}
	for lines, want := range map[int]api.Fault{api.MaxSource / 3: {}, api.MaxSource/3 + 1: {Code: api.ErrLimit, At: api.MaxSource}, api.MaxSource / 2: {Code: api.ErrLimit, At: api.MaxSource}} {
		source := strings.Repeat("a;", lines)
		got, f := Normalize(source)
		if f != want || (f == api.Fault{}) != (got == strings.Repeat("a;\n", lines)) || f != (api.Fault{}) && got != "" {
			t.Errorf("Normalize of %d lines: %d bytes, %v; want %v", lines, len(got), f, want)
		}
	}
}
