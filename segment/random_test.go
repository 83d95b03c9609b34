package segment

import (
	"math/rand"
	"slices"
	"strings"
	"testing"

	"salchow/api"
	"salchow/formula"
)

// forms are all forms of the entries but score, with the sign and without it. Capital words stand for atoms, and numbers of different ranges have different ones.
var forms = map[string][]string{
	"count":       {"ITEMS"},
	"repeat":      {"ITEMS"},
	"connections": {"AMOUNT"},
	"require":     {"GROUP least ITEMS deduct AMOUNT"},
	"penalty":     {"NAME value AMOUNT most ITEMS"},
	"panel": {
		"NAME overall LO to HI step STEP judges JUDGES least LEAST drop DROP tolerance AMOUNT",
		"NAME overall - LO to HI step STEP judges JUDGES least LEAST drop DROP tolerance AMOUNT",
		"NAME elements LO to HI step STEP judges JUDGES least LEAST drop DROP tolerance AMOUNT scale AMOUNT",
		"NAME elements - LO to HI step STEP judges JUDGES least LEAST drop DROP tolerance AMOUNT scale AMOUNT",
	},
}

// fitting returns the number of atoms at the beginning that fit a form.
func fitting(atoms []api.Token, form []string) int {
	for i, atom := range atoms {
		if i == len(form) {
			return i
		}
		want := api.Token{Kind: api.TokWord, Text: form[i], At: atom.At}
		switch {
		case form[i] == "-":
			want.Kind = api.TokSign
		case form[i] == "NAME" || form[i] == "GROUP":
			want.Text = atom.Text
		case form[i] == strings.ToUpper(form[i]):
			want = api.Token{Kind: api.TokNumber, N: atom.N, At: atom.At}
		}
		if atom != want {
			return i
		}
	}
	return len(atoms)
}

// roles returns the form that an entry has, or the fault of its syntax.
func roles(k api.Clause) ([]string, api.Fault) {
	if k.Word == "score" && len(k.Atoms) > 0 && !k.Block {
		return nil, api.Fault{}
	}
	most := len(k.Atoms)
	for i, form := range forms[k.Word] {
		words := strings.Fields(form)
		n := fitting(k.Atoms, words)
		if n == len(words) && n == len(k.Atoms) && !k.Block {
			return words, api.Fault{}
		}
		if i == 0 {
			most = 0
		}
		most = max(most, n)
	}
	if most < len(k.Atoms) {
		return nil, api.Fault{Code: api.ErrSyntax, At: k.Atoms[most].At}
	}
	return nil, api.Fault{Code: api.ErrSyntax, At: k.At}
}

// atomOf returns the atom of an entry with a form that stands for a capital word.
func atomOf(k api.Clause, form []string, word string) api.Token {
	return k.Atoms[slices.Index(form, word)]
}

// lowOf returns the least mark of the entry of a panel.
func lowOf(k api.Clause, form []string) int64 {
	if slices.Contains(form, "-") {
		return -atomOf(k, form, "LO").N
	}
	return atomOf(k, form, "LO").N
}

// inRange reports whether a number of an entry, all before it being in their ranges, is in its range.
func inRange(k api.Clause, form []string, i int) bool {
	whole := k.Atoms[i].N/1000*1000 == k.Atoms[i].N
	n := k.Atoms[i].N / 1000
	switch form[i] {
	case "ITEMS":
		return whole && 1 <= n && n <= 30
	case "JUDGES":
		return whole && 1 <= n && n <= 15
	case "LEAST":
		return whole && 1 <= n && 1000*n <= atomOf(k, form, "JUDGES").N
	case "DROP":
		return whole && n <= 15
	case "HI":
		return k.Atoms[i].N >= lowOf(k, form) && k.Atoms[i].N <= 1000000
	case "STEP":
		return k.Atoms[i].N != 0 && k.Atoms[i].N <= 1000000
	case "LO", "AMOUNT":
		return k.Atoms[i].N <= 1000000
	}
	return true
}

// isName reports by bytes whether a text is a name.
func isName(s string) bool {
	return s != "" && len(s) <= 16 && strings.Trim(s, "abcdefghijklmnopqrstuvwxyz0123456789_") == "" && s[0] >= 'a' && s[0] <= 'z'
}

// declared returns the names or groups of the entries of a kind.
func declared(before []api.Clause, kind string) []string {
	var names []string
	for _, k := range before {
		if k.Word == kind {
			names = append(names, k.Atoms[0].Text)
		}
	}
	return names
}

// faultOfScore returns the fault of the atoms of a formula.
func faultOfScore(before []api.Clause, k api.Clause) api.Fault {
	x, f := formula.Parse(k.Atoms)
	if f != (api.Fault{}) {
		return f
	}
	unknown := slices.DeleteFunc(formula.Variables(x), func(name string) bool {
		return name == "difficulty" || name == "penalties" || slices.Contains(declared(before, "panel"), name)
	})
	for _, atom := range k.Atoms {
		if slices.Contains(unknown, atom.Text) {
			return api.Fault{Code: api.ErrName, At: atom.At}
		}
	}
	return api.Fault{}
}

// faultOfEntry returns the fault of an entry behind others without a fault, by the definition.
func faultOfEntry(before []api.Clause, k api.Clause) api.Fault {
	form, f := roles(k)
	if f != (api.Fault{}) {
		return f
	}
	number := 0
	for _, other := range before {
		if other.Word == k.Word {
			number++
		}
	}
	single := k.Word == "count" || k.Word == "repeat" || k.Word == "connections" || k.Word == "score"
	switch {
	case single && number > 0:
		return api.Fault{Code: api.ErrTwice, At: k.At}
	case k.Word == "panel" && number == 6, k.Word == "penalty" && number == 12:
		return api.Fault{Code: api.ErrLimit, At: k.At}
	case k.Word == "score":
		return faultOfScore(before, k)
	}
	for i, atom := range k.Atoms {
		forbidden := k.Word == "panel" && slices.Contains([]string{"difficulty", "penalties", "best", "total"}, atom.Text)
		switch {
		case form[i] == "NAME" && (!isName(atom.Text) || forbidden), form[i] == "GROUP" && !slices.Contains([]string{"acro", "jump", "spin"}, atom.Text):
			return api.Fault{Code: api.ErrName, At: atom.At}
		case (form[i] == "NAME" || form[i] == "GROUP") && slices.Contains(declared(before, k.Word), atom.Text):
			return api.Fault{Code: api.ErrTwice, At: atom.At}
		case !inRange(k, form, i):
			return api.Fault{Code: api.ErrRange, At: atom.At}
		}
	}
	return api.Fault{}
}

// firstFault returns the first fault of the entry of a segment that has a name and a block, by the definition.
func firstFault(k api.Clause) api.Fault {
	lacking := []string{"count", "repeat", "connections", "score"}
	for i, entry := range k.Kids {
		if f := faultOfEntry(k.Kids[:i], entry); f != (api.Fault{}) {
			return f
		}
		lacking = slices.DeleteFunc(lacking, func(word string) bool { return word == entry.Word })
	}
	if len(lacking) > 0 {
		return api.Fault{Code: api.ErrSyntax, At: k.At}
	}
	return api.Fault{}
}

// checkLoaded checks the segment of an entry without a fault against each of the entries in its block.
func checkLoaded(t *testing.T, k api.Clause, s api.Segment) {
	t.Helper()
	want := api.Segment{Name: k.Atoms[0].Text}
	for _, entry := range k.Kids {
		form, _ := roles(entry)
		number := func(word string) int64 { return atomOf(entry, form, word).N }
		whole := func(word string) int { return int(number(word) / 1000) }
		switch entry.Word {
		case "count":
			want.Count = whole("ITEMS")
		case "repeat":
			want.Repeat = whole("ITEMS")
		case "connections":
			want.Connections = number("AMOUNT")
		case "require":
			want.Requires = append(want.Requires, api.Require{Group: entry.Atoms[0].Text, Least: whole("ITEMS"), Deduct: number("AMOUNT")})
		case "penalty":
			want.Penalties = append(want.Penalties, api.Penalty{Name: entry.Atoms[0].Text, Value: number("AMOUNT"), Most: whole("ITEMS")})
		case "panel":
			p := api.Panel{Name: entry.Atoms[0].Text, Kind: api.PanelOverall, Lo: lowOf(entry, form), Hi: number("HI"), Step: number("STEP"), Judges: whole("JUDGES"), Least: whole("LEAST"), Drop: whole("DROP"), Tolerance: number("AMOUNT")}
			if form[1] == "elements" {
				p.Kind, p.Scale = api.PanelElements, entry.Atoms[len(entry.Atoms)-1].N
			}
			want.Panels = append(want.Panels, p)
		case "score":
			want.Score, _ = formula.Parse(entry.Atoms)
		}
	}
	slices.SortFunc(want.Requires, func(a, b api.Require) int { return strings.Compare(a.Group, b.Group) })
	slices.SortFunc(want.Penalties, func(a, b api.Penalty) int { return strings.Compare(a.Name, b.Name) })
	slices.SortFunc(want.Panels, func(a, b api.Panel) int { return strings.Compare(a.Name, b.Name) })
	if !same(s, want) || Check(rules(), s) != api.OK {
		t.Errorf("%v, %d; want %v", s, Check(rules(), s), want)
	}
}

// bits are the atoms of random entries.
var bits = []string{"a", "b", "jump", "A", "least", "value", "overall", "elements", "scale", "total", "1", "0.5", "31", "0", "2000", `"a"`, "+", "-", "("}

// samples are atoms that capital words of forms stand for, those that have no fault more often.
var samples = map[string][]string{
	"NAME":   {"a", "b", "c", "d", "e", "f_1", "min", "difficulty", "total"},
	"GROUP":  {"acro", "jump", "spin", "spin", "line"},
	"ITEMS":  {"1", "2", "5", "12", "30", "30", "1.5", "31"},
	"AMOUNT": {"0", "0.25", "1", "3", "1000", "1000", "1000.001"},
	"LO":     {"0", "0.5", "1", "2.25", "1000"},
	"HI":     {"0.25", "5", "5.5", "10", "1000", "1000", "1000"},
	"STEP":   {"0.25", "0.5", "1", "1000"},
	"JUDGES": {"3", "5", "7", "15"},
	"LEAST":  {"1", "2", "3", "4"},
	"DROP":   {"0", "1", "2", "15", "15", "0.5"},
}

// randomAtoms returns atoms of an entry, which mostly have one of its forms.
func randomAtoms(random *rand.Rand, kind string) string {
	pick := func(list []string) string { return list[random.Intn(len(list))] }
	if kind == "score" {
		return pick([]string{"difficulty", "1", "a", "max(a, b)", "min(difficulty, 5) - penalties", "a + e", "(b", "2 * (a - c)", "c / 0", "A"})
	}
	words := strings.Fields(pick(forms[kind]))
	for i, word := range words {
		if list := samples[word]; list != nil {
			words[i] = pick(list)
		}
		if random.Intn(150) == 0 {
			words[i] = pick(bits)
		}
	}
	switch random.Intn(60) {
	case 0:
		words = words[:random.Intn(len(words)+1)]
	case 1:
		words = append(words, pick(bits))
	}
	return strings.Join(words, " ")
}

// randomBlock returns the entries of a block in any order, of which mostly none is lacking, and score is mostly the last one.
func randomBlock(random *rand.Rand) []string {
	kinds := []string{"count", "repeat", "connections"}
	for range random.Intn(5) {
		kinds = append(kinds, []string{"require", "penalty", "panel", "panel", "panel"}[random.Intn(5)])
	}
	random.Shuffle(len(kinds), func(i, j int) { kinds[i], kinds[j] = kinds[j], kinds[i] })
	kinds = append(kinds, "score")
	switch i := random.Intn(len(kinds)); random.Intn(15) {
	case 0:
		kinds = slices.Delete(kinds, i, i+1)
	case 1:
		kinds = append(kinds, kinds[i])
	case 2:
		kinds[i] = "score"
	}
	for i, kind := range kinds {
		kinds[i] = kind + " " + randomAtoms(random, kind) + []string{";", "; ", ";\n", "; # and so on\n"}[random.Intn(4)]
		if random.Intn(200) == 0 {
			kinds[i] = kind + " " + randomAtoms(random, kind) + " { }"
		}
	}
	return kinds
}

func TestLoadOfRandomSources(t *testing.T) {
	random := rand.New(rand.NewSource(70))
	found := map[api.Errno]int{}
	for range 60000 {
		source := "segment free { " + strings.Join(randomBlock(random), "") + "}"
		k := parsed(t, source)
		want := firstFault(k)
		found[want.Code]++
		s, f := Load(rules(), k)
		if f != want || f.Code != api.OK && !same(s, api.Segment{}) {
			t.Fatalf("Load of %q: %v, %v; want %v", source, s, f, want)
		}
		if f.Code == api.OK {
			checkLoaded(t, k, s)
		}
	}
	for _, code := range []api.Errno{api.OK, api.ErrSyntax, api.ErrName, api.ErrTwice, api.ErrRange} {
		if found[code] < 1000 {
			t.Errorf("%v", found)
		}
	}
}

func TestSyntaxOfRandomAtoms(t *testing.T) {
	random := rand.New(rand.NewSource(71))
	kinds := []string{"count", "repeat", "connections", "require", "penalty", "panel", "panel", "panel"}
	fits := 0
	for range 60000 {
		kind := kinds[random.Intn(len(kinds))]
		words := strings.Fields(randomAtoms(random, kind))
		for range random.Intn(3) {
			if i := random.Intn(len(words) + 1); i < len(words) {
				words[i] = bits[random.Intn(len(bits))]
			}
		}
		k := parsed(t, "segment free { "+kind+" "+strings.Join(words, " ")+[]string{";", ";", ";", ";", "{}"}[random.Intn(5)]+" }")
		_, want := roles(k.Kids[0])
		if want.Code == api.OK {
			fits++
		}
		_, f := Load(rules(), k)
		if want.Code != api.OK && f != want || want.Code == api.OK && f.Code == api.ErrSyntax && f.At != k.At {
			t.Errorf("Load of %s %q: %v; want %v", kind, words, f, want)
		}
	}
	if fits < 10000 || fits > 50000 {
		t.Errorf("%d entries have their forms", fits)
	}
}

func TestOrderOfEntries(t *testing.T) {
	random := rand.New(rand.NewSource(72))
	accepted := 0
	for range 20000 {
		block := randomBlock(random)
		k := parsed(t, "segment free { "+strings.Join(block, "")+"}")
		want, f := Load(rules(), k)
		if f != (api.Fault{}) {
			continue
		}
		accepted++
		other := copiedClause(k)
		random.Shuffle(len(other.Kids), func(i, j int) { other.Kids[i], other.Kids[j] = other.Kids[j], other.Kids[i] })
		score := slices.IndexFunc(other.Kids, func(k api.Clause) bool { return k.Word == "score" })
		other.Kids = append(slices.Delete(slices.Clone(other.Kids), score, score+1), other.Kids[score])
		if s, f := Load(rules(), other); f != (api.Fault{}) || !same(s, want) {
			t.Errorf("%v: %v, %v; want %v", other, s, f, want)
		}
	}
	if accepted < 500 {
		t.Errorf("%d segments are accepted", accepted)
	}
}
