package ruleset

import (
	"math/rand"
	"slices"
	"strings"
	"testing"

	"salchow/api"
	"salchow/catalog"
	"salchow/parser"
	"salchow/segment"
)

// forms are the forms of the entries that belong neither to the catalog nor to a segment; capital words stand for atoms.
var forms = map[string][]string{
	"discipline": {"NAME season SEASON"},
	"publish":    {"DIGITS down", "DIGITS half_up", "DIGITS half_even"},
	"rank":       {"exact", "published"},
}

// fitting returns the number of atoms at the beginning that fit a form.
func fitting(atoms []api.Token, form []string) int {
	for i, atom := range atoms {
		if i == len(form) {
			return i
		}
		want := api.Token{Kind: api.TokWord, Text: form[i], At: atom.At}
		switch {
		case form[i] == "NAME" || form[i] == "CRITERION":
			want.Text = atom.Text
		case form[i] == strings.ToUpper(form[i]):
			want = api.Token{Kind: api.TokNumber, N: atom.N, At: atom.At}
		}
		if atom != want {
			return i
		}
	}
	return len(atoms)
}

// syntaxOf returns the fault of the syntax of an entry of these forms, or of tie.
func syntaxOf(k api.Clause) api.Fault {
	all := forms[k.Word]
	if k.Word == "tie" {
		all = []string{strings.Repeat("CRITERION ", max(1, len(k.Atoms)))}
	}
	most := 0
	for _, form := range all {
		words := strings.Fields(form)
		n := fitting(k.Atoms, words)
		if n == len(words) && n == len(k.Atoms) && !k.Block {
			return api.Fault{}
		}
		most = max(most, n)
	}
	if most < len(k.Atoms) {
		return api.Fault{Code: api.ErrSyntax, At: k.Atoms[most].At}
	}
	return api.Fault{Code: api.ErrSyntax, At: k.At}
}

// isName reports by bytes whether a text is a name.
func isName(s string) bool {
	return s != "" && len(s) <= 16 && strings.Trim(s, "abcdefghijklmnopqrstuvwxyz0123456789_") == "" && s[0] >= 'a' && s[0] <= 'z'
}

// faultOfAtoms returns the fault of the atoms of an entry that has its form.
func faultOfAtoms(k api.Clause) api.Fault {
	bad := func(n, least, most int64) bool { return n/1000*1000 != n || n < 1000*least || n > 1000*most }
	switch {
	case k.Word == "discipline" && !isName(k.Atoms[0].Text):
		return api.Fault{Code: api.ErrName, At: k.Atoms[0].At}
	case k.Word == "discipline" && bad(k.Atoms[2].N, 1, 9999):
		return api.Fault{Code: api.ErrRange, At: k.Atoms[2].At}
	case k.Word == "publish" && bad(k.Atoms[0].N, 0, 3):
		return api.Fault{Code: api.ErrRange, At: k.Atoms[0].At}
	case k.Word != "tie":
		return api.Fault{}
	}
	for i, atom := range k.Atoms {
		if i >= 12 {
			return api.Fault{Code: api.ErrLimit, At: atom.At}
		}
		if slices.ContainsFunc(k.Atoms[:i], func(other api.Token) bool { return other.Text == atom.Text }) {
			return api.Fault{Code: api.ErrTwice, At: atom.At}
		}
	}
	return api.Fault{}
}

// faultOfEntry returns the fault of an entry behind others by itself.
func faultOfEntry(before []api.Clause, k api.Clause) api.Fault {
	segments := len(parser.Find(before, "segment"))
	switch k.Word {
	case "group", "class", "element", "connect":
		if segments > 0 {
			return api.Fault{Code: api.ErrOrder, At: k.At}
		}
		return api.Fault{}
	case "segment":
		if segments >= 8 {
			return api.Fault{Code: api.ErrLimit, At: k.At}
		}
		return api.Fault{}
	case "discipline", "publish", "rank", "tie":
		if f := syntaxOf(k); f != (api.Fault{}) {
			return f
		}
		if len(parser.Find(before, k.Word)) > 0 {
			return api.Fault{Code: api.ErrTwice, At: k.At}
		}
		return faultOfAtoms(k)
	}
	return api.Fault{Code: api.ErrSyntax, At: k.At}
}

// namesOf returns the name of a segment and the names of its panels.
func namesOf(s api.Segment) (string, []string) {
	var panels []string
	for _, p := range s.Panels {
		panels = append(panels, p.Name)
	}
	return s.Name, panels
}

// faultOfSegments returns the segments of a list, in its order, and the first fault.
func faultOfSegments(c api.Catalog, list []api.Clause) ([]api.Segment, api.Fault) {
	var before []api.Segment
	for _, k := range parser.Find(list, "segment") {
		s, f := segment.Load(c, k)
		if f != (api.Fault{}) {
			return nil, f
		}
		name, panels := namesOf(s)
		if slices.Contains([]string{"difficulty", "penalties", "best", "total"}, name) {
			return nil, api.Fault{Code: api.ErrName, At: k.Atoms[0].At}
		}
		taken := slices.Contains(panels, name)
		for _, other := range before {
			otherName, otherPanels := namesOf(other)
			taken = taken || name == otherName || slices.Contains(otherPanels, name) || slices.Contains(panels, otherName)
		}
		if taken {
			return nil, api.Fault{Code: api.ErrTwice, At: k.Atoms[0].At}
		}
		before = append(before, s)
	}
	return before, api.Fault{}
}

// firstFault returns the catalog and the segments of a list, and its first fault, by the definition.
func firstFault(list []api.Clause) (api.Catalog, []api.Segment, api.Fault) {
	var c api.Catalog
	if len(list) == 0 || list[0].Word != "discipline" {
		return c, nil, api.Fault{Code: api.ErrOrder, At: append(list, api.Clause{})[0].At}
	}
	for i, k := range list {
		if f := faultOfEntry(list[:i], k); f != (api.Fault{}) {
			return c, nil, f
		}
	}
	c, f := catalog.Load(list)
	if f != (api.Fault{}) {
		return c, nil, f
	}
	segments, f := faultOfSegments(c, list)
	if f != (api.Fault{}) {
		return c, nil, f
	}
	known := []string{"difficulty", "penalties", "best"}
	for _, s := range segments {
		name, panels := namesOf(s)
		known = append(append(known, name), panels...)
	}
	for _, tie := range parser.Find(list, "tie") {
		for _, atom := range tie.Atoms {
			if !slices.Contains(known, atom.Text) {
				return c, nil, api.Fault{Code: api.ErrName, At: atom.At}
			}
		}
	}
	for _, word := range []string{"publish", "rank", "segment"} {
		if len(parser.Find(list, word)) == 0 {
			return c, nil, api.Fault{Code: api.ErrNone, At: list[0].At}
		}
	}
	return c, segments, api.Fault{}
}

// rulesetOf returns the ruleset of entries without a fault, with its catalog and its segments in the order of the entries.
func rulesetOf(list []api.Clause, c api.Catalog, segments []api.Segment) api.Ruleset {
	r := api.Ruleset{Catalog: c, Segments: slices.Clone(segments)}
	slices.SortFunc(r.Segments, func(a, b api.Segment) int { return strings.Compare(a.Name, b.Name) })
	for _, k := range list {
		switch k.Word {
		case "discipline":
			r.Name, r.Season = k.Atoms[0].Text, int(k.Atoms[2].N)/1000
		case "publish":
			r.Digits, r.Mode = int(k.Atoms[0].N)/1000, map[string]int{"down": api.Down, "half_up": api.HalfUp, "half_even": api.HalfEven}[k.Atoms[1].Text]
		case "rank":
			r.Exact = k.Atoms[0].Text == "exact"
		case "tie":
			for _, atom := range k.Atoms {
				r.Ties = append(r.Ties, atom.Text)
			}
		}
	}
	return r
}

// bits are the atoms of random entries.
var bits = []string{"a", "b", "art", "A", "season", "down", "half_up", "exact", "best", "1", "0.5", "4", "0", `"a"`, "+", "-"}

// randomEntry returns the source of an entry of a kind, which mostly has no fault of its own.
func randomEntry(random *rand.Rand, kind string) string {
	pick := func(list ...string) string { return list[random.Intn(len(list))] }
	var words []string
	switch kind {
	case "discipline":
		words = []string{pick("a", "figure", "a_1", "season"), "season", pick("1", "2026", "9999", "2027")}
	case "publish":
		words = []string{pick("0", "1", "2", "3"), pick("down", "half_up", "half_even")}
	case "rank":
		words = []string{pick("exact", "published")}
	case "tie":
		words = randomTies(random)
	case "segment":
		return randomSegment(random)
	default:
		words = strings.Fields(map[string]string{"group": pick("spin limit 1 credit 0", "floor limit 3 credit 0.5", "hold limit 1 credit 1"), "class": pick("c", "d", "free"), "element": pick("A group jump value 1", "B group jump value 2", "C group jump value 1 class line"), "connect": "line line value 1", "frob": "1"}[kind])
	}
	for i := range words {
		if random.Intn(120) == 0 {
			words[i] = pick(bits...)
		}
	}
	switch random.Intn(120) {
	case 0:
		words = append(words, pick(bits...))
	case 1:
		words = words[:random.Intn(len(words))]
	}
	end := ";"
	if random.Intn(100) == 0 {
		end = "{ rank exact; }"
	}
	return kind + " " + strings.Join(words, " ") + end + "\n"
}

// randomTies returns criteria, which mostly are some of every ruleset.
func randomTies(random *rand.Rand) []string {
	all := strings.Fields("best art difficulty penalties free bars goe short total zeal")
	words := slices.Clone(all[:3])
	switch random.Intn(6) {
	case 0:
		words = all[random.Intn(len(all)):]
	case 1:
		words = append(words, all[random.Intn(len(all))])
	case 2:
		words = append(words, strings.Fields("c d e f g h i j k l m n")[random.Intn(6):]...)
	}
	random.Shuffle(len(words), func(i, j int) { words[i], words[j] = words[j], words[i] })
	return words
}

// randomSegment returns the source of a segment, mostly without a fault of its own.
func randomSegment(random *rand.Rand) string {
	pick := func(list ...string) string { return list[random.Intn(len(list))] }
	var panels []string
	for _, panel := range []string{"art", "goe", "free", "zeal"} {
		if panel == "art" || random.Intn(map[string]int{"goe": 3, "free": 30, "zeal": 3}[panel]) == 0 {
			panels = append(panels, panel)
		}
	}
	name := pick("free", "short", "bars", "beam", "floor", "ring", "rope", "hoop")
	if random.Intn(30) == 0 {
		name = pick("art", "best", "zeal", "total")
	}
	source := paneled(name, panels...)
	switch random.Intn(100) {
	case 0:
		return strings.Replace(source, "count 1;", "count 0;", 1)
	case 1:
		return strings.Replace(source, "score 1", "score goe + difficulty", 1)
	case 2:
		return strings.Replace(source, "count 1;", "require jump least 1 deduct 1; count 1;", 1)
	case 3:
		return "segment;"
	}
	return source + "\n"
}

// randomSource returns a random source, which often has no fault.
func randomSource(random *rand.Rand) string {
	kinds := []string{}
	for range random.Intn(4) {
		kinds = append(kinds, []string{"element", "element", "group", "class", "connect"}[random.Intn(5)])
	}
	for range 1 + random.Intn(3) {
		kinds = append(kinds, "segment")
	}
	if random.Intn(20) == 0 {
		kinds = append(kinds, slices.Repeat([]string{"segment"}, 6)...)
	}
	for _, kind := range []string{"publish", "rank", "tie"} {
		kinds = slices.Insert(kinds, random.Intn(len(kinds)+1), kind)
	}
	kinds = slices.Insert(kinds, 0, "discipline")
	i, j := random.Intn(len(kinds)), random.Intn(len(kinds))
	switch random.Intn(16) {
	case 0:
		kinds = slices.Delete(kinds, i, i+1)
	case 1:
		kinds = slices.Insert(kinds, i, kinds[j])
	case 2:
		kinds[i], kinds[j] = kinds[j], kinds[i]
	case 3:
		kinds = slices.Insert(kinds, i, "frob")
	}
	source := ""
	for i, kind := range kinds {
		source += randomEntry(random, kind)
		if i == 0 {
			source += "group jump limit 1 credit 0; class line;\n"
		}
	}
	return source
}

func TestLoadOfRandomSources(t *testing.T) {
	random := rand.New(rand.NewSource(80))
	found := map[api.Errno]int{}
	for range 20000 {
		source := randomSource(random)
		c, segments, want := firstFault(parsed(t, source))
		found[want.Code]++
		if want != (api.Fault{}) {
			refuses(t, source, want)
			continue
		}
		r, f := Load(source)
		if all := rulesetOf(parsed(t, source), c, segments); f != want || !same(r, all) || !Valid(r) {
			t.Errorf("Load of %q: %v, %v; want %v", source, r, f, all)
		}
	}
	for _, code := range []api.Errno{api.OK, api.ErrSyntax, api.ErrName, api.ErrTwice, api.ErrRange, api.ErrOrder, api.ErrNone, api.ErrLimit} {
		if found[code] < 100 {
			t.Errorf("%v", found)
		}
	}
}

func TestLoadOfSources(t *testing.T) {
	random := rand.New(rand.NewSource(81))
	valid := 0
	for range 20000 {
		r, f := Load(randomSource(random))
		if f != (api.Fault{}) {
			continue
		}
		valid++
		source, e := Source(r)
		again, f := Load(source)
		if e != api.OK || f != (api.Fault{}) || !alike(r, again) || !Equal(r, again) {
			t.Errorf("%s: %d, %v, %v; want %v", source, e, again, f, r)
		}
		if second, e := Source(again); second != source || e != api.OK {
			t.Errorf("%s, %d; want %s", second, e, source)
		}
		// Every criterion has one kind, that of its list.
		for _, name := range r.Ties {
			kinds := 0
			for _, is := range []bool{slices.ContainsFunc(r.Segments, func(s api.Segment) bool { return s.Name == name }), hasPanel(r, name), name == "difficulty", name == "penalties", name == "best"} {
				if is {
					kinds++
				}
			}
			if kinds != 1 || Criterion(r, name) == None {
				t.Errorf("%s has %d kinds in %v", name, kinds, r)
			}
		}
	}
	if valid < 2000 {
		t.Errorf("%d rulesets are valid", valid)
	}
}

// hasPanel reports whether a segment of a ruleset has a panel with a name.
func hasPanel(r api.Ruleset, name string) bool {
	for _, s := range r.Segments {
		if _, panels := namesOf(s); slices.Contains(panels, name) {
			return true
		}
	}
	return false
}
