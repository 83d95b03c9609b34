package catalog

import (
	"cmp"
	"math/rand"
	"reflect"
	"slices"
	"strconv"
	"strings"
	"testing"

	"salchow/api"
	"salchow/parser"
)

// parsed returns the entries of a source.
func parsed(t *testing.T, source string) []api.Clause {
	t.Helper()
	list, f := parser.Parse(source)
	if f != (api.Fault{}) {
		t.Fatalf("Parse of %q: %v", source, f)
	}
	return list
}

// loaded returns the catalog of a source.
func loaded(t *testing.T, source string) api.Catalog {
	t.Helper()
	c, f := Load(parsed(t, source))
	if f != (api.Fault{}) {
		t.Fatalf("Load of %q: %v", source, f)
	}
	return c
}

// example is the source of the first example.
const example = "group jump limit 3 credit 0.5; class c; element 2A group jump value 3.3 class c; element 3A group jump value 8 lower 2A;"

// head declares the groups a and b, the classes c and d, and the elements X, Y and Z.
const head = "group a limit 1 credit 0; group b limit 30 credit 1000; class c; class d; element X group a value 1; element Y group b value 1.5 class c lower X; element Z group a value 1.5 lower Y; connect c d value 0.2; "

// copied returns a copy of a list that shares no memory with it.
func copied(list []api.Clause) []api.Clause {
	var all []api.Clause
	for _, c := range list {
		c.Atoms, c.Kids = slices.Clone(c.Atoms), copied(c.Kids)
		all = append(all, c)
	}
	return all
}

// copiedCatalog returns a copy of a catalog that shares no memory with it, with nil for empty lists.
func copiedCatalog(c api.Catalog) api.Catalog {
	return api.Catalog{Groups: slices.Concat(c.Groups), Classes: slices.Concat(c.Classes), Elements: slices.Concat(c.Elements), Connects: slices.Concat(c.Connects)}
}

// same reports whether two catalogs are equal.
func same(a, b api.Catalog) bool {
	return reflect.DeepEqual(copiedCatalog(a), copiedCatalog(b))
}

func TestLoadOfExamples(t *testing.T) {
	want := api.Catalog{Groups: []api.Group{{Name: "jump", Limit: 3, Credit: 500}}, Classes: []string{"c"}, Elements: []api.Element{{Code: "2A", Group: "jump", Value: 3300, Class: "c"}, {Code: "3A", Group: "jump", Value: 8000, Lower: "2A"}}}
	if c := loaded(t, example); !same(c, want) {
		t.Errorf("%v", c)
	}
	want = api.Catalog{
		Groups:   []api.Group{{Name: "a", Limit: 1}, {Name: "b", Limit: 30, Credit: api.MaxMilli}},
		Classes:  []string{"c", "d"},
		Elements: []api.Element{{Code: "X", Group: "a", Value: 1000}, {Code: "Y", Group: "b", Value: 1500, Class: "c", Lower: "X"}, {Code: "Z", Group: "a", Value: 1500, Lower: "Y"}},
		Connects: []api.Connect{{First: "c", Second: "d", Value: 200}},
	}
	// Other entries are passed over, whatever they have.
	for _, source := range []string{head, `discipline; ` + head, `tie c c; segment x { group a; group a; } ` + head + ` groups a; elements { } publish "group";`} {
		if c := loaded(t, source); !same(c, want) {
			t.Errorf("%q: %v", source, c)
		}
	}
	for _, source := range []string{"", "rank exact;", "segment group { class c; class c; }"} {
		if c := loaded(t, source); !same(c, api.Catalog{}) {
			t.Errorf("%q: %v", source, c)
		}
	}
}

func TestLoadSorts(t *testing.T) {
	source := "class z; class c; class a_1; group spin limit 2 credit 1; group jump limit 1 credit 0.005; group a limit 4 credit 1; element b group a value 0; element 3A group jump value 2 class z lower b; element A group spin value 1000 class a_1 lower 3A; connect z c value 1; connect c z value 1000; connect c a_1 value 0; connect a_1 a_1 value 0.001;"
	want := api.Catalog{
		Groups:   []api.Group{{Name: "a", Limit: 4, Credit: 1000}, {Name: "jump", Limit: 1, Credit: 5}, {Name: "spin", Limit: 2, Credit: 1000}},
		Classes:  []string{"a_1", "c", "z"},
		Elements: []api.Element{{Code: "3A", Group: "jump", Value: 2000, Class: "z", Lower: "b"}, {Code: "A", Group: "spin", Value: api.MaxMilli, Class: "a_1", Lower: "3A"}, {Code: "b", Group: "a"}},
		Connects: []api.Connect{{First: "a_1", Second: "a_1", Value: 1}, {First: "c", Second: "a_1"}, {First: "c", Second: "z", Value: api.MaxMilli}, {First: "z", Second: "c", Value: 1000}},
	}
	if c := loaded(t, source); !same(c, want) {
		t.Errorf("%v", c)
	}
}

// faults checks that entries behind a beginning have faults; At counts from the end of the beginning.
func faults(t *testing.T, before string, cases map[string]api.Fault) {
	t.Helper()
	for source, want := range cases {
		want.At += len(before)
		list := parsed(t, before+source)
		again := copied(list)
		if c, f := Load(list); f != want || !same(c, api.Catalog{}) {
			t.Errorf("Load of %q: %v, %v; want %v", source, c, f, want)
		}
		if !reflect.DeepEqual(list, again) {
			t.Errorf("%q: the entries have changed", source)
		}
	}
}

func TestFaultsOfSyntax(t *testing.T) {
	at := func(n int) api.Fault { return api.Fault{Code: api.ErrSyntax, At: n} }
	faults(t, head, map[string]api.Fault{
		"group;": at(0), "group e;": at(0), "group e limit;": at(0), "group e limit 1;": at(0), "group e limit 1 credit;": at(0), "group e limit 1 credit 1 {}": at(0), "group {}": at(0), " group e limit 1 { credit 1; }": at(1),
		"group 5 limit 1 credit 1;": at(6), `group "e" limit 1 credit 1;`: at(6), "group + limit 1 credit 1;": at(6), "group e credit 1 limit 1;": at(8), "group e 1 credit 1;": at(8), `group e "limit" 1 credit 1;`: at(8), "group e Limit 1 credit 1;": at(8), "group e limit x credit 1;": at(14), "group e limit - 1 credit 1;": at(14), `group e limit "1" credit 1;`: at(14), "group e limit 1 value 1;": at(16), "group e limit 1 credit e;": at(23), "group e limit 1 credit - 1;": at(23), "group e limit 1 credit 1 1;": at(25), "group e limit 1 credit 1 ,;": at(25), "group e limit 1 credit 1 x {}": at(25), "group e limit 1 credit limit {}": at(23),
		"class;": at(0), "class {}": at(0), "class e {}": at(0), "class e { class f; }": at(0), "class 1;": at(6), "class (;": at(6), `class "e";`: at(6), "class e e;": at(8), "class e 1 {}": at(8), "class e, f;": at(7),
		"element;": at(0), "element E;": at(0), "element E group a;": at(0), "element E group a value;": at(0), "element E group a value 1 class;": at(0), "element E group a value 1 class c lower;": at(0), "element E group a value 1 lower;": at(0), "element E group a value 1 {}": at(0), "element E group a value 1 class c {}": at(0), "element E group a value 1 class c lower X {}": at(0), "element {}": at(0),
		"element 3 group a value 1;": at(8), "element E a value 1;": at(10), "element E group 1 value 1;": at(16), "element E group value 1;": at(22), "element E group a 1;": at(18), "element E group a value x;": at(24), "element E group a value 1 x;": at(26), "element E group a value 1 1;": at(26), `element E group a value 1 "class" c;`: at(26), "element E group a value 1 class 1;": at(32), "element E group a value 1 class c X;": at(34), "element E group a value 1 class c class c;": at(34), "element E group a value 1 lower X class c;": at(34), "element E group a value 1 lower X lower X;": at(34), "element E group a value 1 lower 1;": at(32), "element E group a value 1 class c lower 1 {}": at(40), "element E group a value 1 class c lower X 1;": at(42), "element E group a value 1 class c lower X + {}": at(42),
		// The word behind class is a name, whatever it is.
		"element E group a value 1 class lower X;": at(38),
		"connect;": at(0), "connect c;": at(0), "connect c d;": at(0), "connect c d value;": at(0), "connect d c value 1 {}": at(0), "connect {}": at(0), "connect 1 d value 1;": at(8), "connect c 1 value 1;": at(10), "connect c value 1;": at(16), "connect c + d value 1;": at(10), "connect c d 1;": at(12), "connect c d value c;": at(18), "connect c d value 1 d;": at(20), "connect c d value 1 d {}": at(20),
		// It comes before all other faults of the entry, and the entries before it come first.
		"group A limit 0 credit 2000 x;": at(28), "class c c;": at(8), "element X group z value 2000 lower none {}": at(0), "connect z z value 2000 2;": at(23), "class; class c;": at(0), "tie x; group x;": at(7),
	})
	faults(t, "", map[string]api.Fault{"group;": at(0), "element 5;": at(8), "\n # group\n class {}": at(11)})
}

func TestOtherFaults(t *testing.T) {
	f := func(code api.Errno, at int) api.Fault { return api.Fault{Code: code, At: at} }
	faults(t, head, map[string]api.Fault{
		// Names and codes that are declared.
		"group Spin limit 1 credit 1;": f(api.ErrName, 6), "group 2a limit 1 credit 1;": f(api.ErrName, 6), "group abcdefghijklmnopq limit 1 credit 1;": f(api.ErrName, 6), "class C;": f(api.ErrName, 6), "class 2c;": f(api.ErrName, 6), "class abcdefghijklmnopq;": f(api.ErrName, 6), "element ABCDEFGHI group a value 1;": f(api.ErrName, 8), "element A_1 group a value 1;": f(api.ErrName, 8), "element _A group a value 1;": f(api.ErrName, 8),
		"group b limit 1 credit 1;": f(api.ErrTwice, 6), "group a limit 1 credit 0;": f(api.ErrTwice, 6), "class d;": f(api.ErrTwice, 6), "element Y group a value 1;": f(api.ErrTwice, 8), "class e; class e;": f(api.ErrTwice, 15), "group e limit 1 credit 1; class g; group e limit 2 credit 1;": f(api.ErrTwice, 41),
		// Names and codes that were not declared, and of another kind.
		"element E group c value 1;": f(api.ErrName, 16), "element E group e value 1; group e limit 1 credit 1;": f(api.ErrName, 16), "element E group X value 1;": f(api.ErrName, 16), "element E group a value 1 class a;": f(api.ErrName, 32), "element E group a value 1 class e; class e;": f(api.ErrName, 32), "element E group a value 1 class lower lower X;": f(api.ErrName, 32), "element E group a value 1 lower a;": f(api.ErrName, 32), "element E group a value 1 lower c;": f(api.ErrName, 32), "element E group a value 1 lower x;": f(api.ErrName, 32), "element E group a value 1 lower F; element F group a value 1;": f(api.ErrName, 32), "element E group a value 1 lower E;": f(api.ErrName, 32), "connect a d value 1;": f(api.ErrName, 8), "connect c b value 1;": f(api.ErrName, 10), "connect e d value 1; class e;": f(api.ErrName, 8), "connect c X value 1;": f(api.ErrName, 10),
		// Pairs.
		"connect c d value 1;": f(api.ErrTwice, 10), "connect d c value 1; connect d d value 1; connect d c value 1;": f(api.ErrTwice, 52),
		// Numbers.
		"group e limit 0 credit 1;": f(api.ErrRange, 14), "group e limit 31 credit 1;": f(api.ErrRange, 14), "group e limit 1.5 credit 1;": f(api.ErrRange, 14), "group e limit 0.999 credit 1;": f(api.ErrRange, 14), "group e limit 30.001 credit 1;": f(api.ErrRange, 14), "group e limit 1000000 credit 1;": f(api.ErrRange, 14), "group e limit 1 credit 1000.001;": f(api.ErrRange, 23), "group e limit 1 credit 1000000;": f(api.ErrRange, 23), "element E group a value 1000.001;": f(api.ErrRange, 24), "element E group a value 1000000;": f(api.ErrRange, 24), "connect d c value 1000.001;": f(api.ErrRange, 18), "connect d c value 1000000;": f(api.ErrRange, 18),
		// Values of lower elements.
		"element E group a value 0.999 lower X;": f(api.ErrConflict, 36), "element E group b value 0 lower Z;": f(api.ErrConflict, 32), "element E group a value 1.499 class c lower Z;": f(api.ErrConflict, 44),
		// The atoms are looked at from left to right.
		"group C limit 0 credit 2000;": f(api.ErrName, 6), "group a limit 0 credit 2000;": f(api.ErrTwice, 6), "group e limit 0 credit 2000;": f(api.ErrRange, 14), "element X_ group e value 2000 class e lower E;": f(api.ErrName, 8), "element X group e value 2000 class e lower E;": f(api.ErrTwice, 8), "element E group e value 2000 class e lower E;": f(api.ErrName, 16), "element E group a value 2000 class e lower E;": f(api.ErrRange, 24), "element E group a value 0 class e lower X;": f(api.ErrName, 32), "element E group a value 0 class d lower E;": f(api.ErrName, 40), "connect e f value 2000;": f(api.ErrName, 8), "connect d e value 2000;": f(api.ErrName, 10), "connect c d value 2000;": f(api.ErrTwice, 10), "connect d c value 2000;": f(api.ErrRange, 18),
		// The first entry with a fault counts.
		"class e; class c; group c;": f(api.ErrTwice, 15), "rank exact; connect d d value 1; element E group a value 2000; class C;": f(api.ErrRange, 57),
	})
	// The same name may be a group and a class, and names may be words of the forms.
	loaded(t, head+"group c limit 1 credit 0; class a; class lower; class group; group value limit 1 credit 0; element a group value value 0 class lower; element lower group c value 1000 class group lower a; element E group c value 1000 lower lower; connect lower group value 1; connect group lower value 1000;")
	faults(t, "group jump limit 3 credit 0.5; class c; element 2A group jump value 3.3 class c; ", map[string]api.Fault{
		"element 3A group jump value 1 lower 2A;": f(api.ErrConflict, 36), "element 3A group jump value 8 lower 4A;": f(api.ErrName, 36),
	})
}

// repeated returns the source of so many entries; # stands for their numbers.
func repeated(n int, entry string) string {
	var all strings.Builder
	for i := range n {
		all.WriteString(strings.ReplaceAll(entry, "#", strconv.Itoa(i)) + "\n")
	}
	return all.String()
}

// pairs returns the source of connects of all pairs of the first classes.
func pairs(n int) string {
	var all strings.Builder
	for i := range n {
		all.WriteString(repeated(n, "connect c"+strconv.Itoa(i)+" c# value 1;"))
	}
	return all.String()
}

func TestLimitsOfLoad(t *testing.T) {
	groups, classes, elements := repeated(api.MaxGroups, "group g# limit 1 credit 1;"), repeated(api.MaxClasses, "class c#;"), repeated(api.MaxElements, "element E# group g1 value 1;")
	full := classes + groups + elements + pairs(api.MaxClasses)
	c := loaded(t, full)
	if len(c.Groups) != 6 || len(c.Classes) != 12 || len(c.Elements) != 400 || len(c.Connects) != 144 || Check(c) != api.OK {
		t.Errorf("%d groups, %d classes, %d elements, %d connects, %d", len(c.Groups), len(c.Classes), len(c.Elements), len(c.Connects), Check(c))
	}
	limit := func(at int) api.Fault { return api.Fault{Code: api.ErrLimit, At: at} }
	syntax := func(at int) api.Fault { return api.Fault{Code: api.ErrSyntax, At: at} }
	// ErrSyntax comes before the limit, and that before what is at the atoms.
	faults(t, full, map[string]api.Fault{
		"group h limit 1 credit 1;": limit(0), " class d;": limit(1), "tie x; element F group g1 value 1;": limit(7), "connect c0 c0 value 1;": limit(0),
		"group g1 limit 0 credit 2000;": limit(0), "class C;": limit(0), "element E_ group h value 2000;": limit(0), "connect d d value 2000;": limit(0),
		"group h;": syntax(0), "class d {}": syntax(0), "element F group g1 value 1 x;": syntax(27), "connect 1;": syntax(8),
	})
	// Entries of other kinds do not count.
	faults(t, classes+groups, map[string]api.Fault{"class d;": limit(0), "group h limit 1 credit 1;": limit(0), "element F group h value 1;": {Code: api.ErrName, At: 16}})
	loaded(t, elementsBehindGroup())
}

// elementsBehindGroup is the source of a chain of MaxElements elements.
func elementsBehindGroup() string {
	source := "group g limit 1 credit 1; element E0 group g value 0;"
	for i := 1; i < api.MaxElements; i++ {
		source += "element E" + strconv.Itoa(i) + " group g value 0." + strconv.Itoa(i + 100)[:3] + " lower E" + strconv.Itoa(i-1) + ";"
	}
	return source
}

// forms are all forms of the entries, with the parts that may be left out and without them.
var forms = map[string][]string{
	"group":   {"NAME limit N credit V"},
	"class":   {"NAME"},
	"element": {"CODE group NAME value V", "CODE group NAME value V class NAME", "CODE group NAME value V lower CODE", "CODE group NAME value V class NAME lower CODE"},
	"connect": {"CLASS CLASS value V"},
}

// fitting returns the number of atoms at the beginning that fit a form.
func fitting(atoms []api.Token, form []string) int {
	for i, atom := range atoms {
		if i == len(form) {
			return i
		}
		want := api.Token{Kind: api.TokWord, Text: form[i]}
		switch {
		case form[i] == "N" || form[i] == "V":
			want = api.Token{Kind: api.TokNumber, N: atom.N}
		case form[i] == strings.ToUpper(form[i]):
			want.Text = atom.Text
		}
		if want.At = atom.At; atom != want {
			return i
		}
	}
	return len(atoms)
}

// roles returns the form that an entry has, or the fault of its syntax.
func roles(c api.Clause) ([]string, api.Fault) {
	most := 0
	for _, form := range forms[c.Word] {
		words := strings.Fields(form)
		n := fitting(c.Atoms, words)
		if n == len(words) && n == len(c.Atoms) && !c.Block {
			return words, api.Fault{}
		}
		most = max(most, n)
	}
	if most < len(c.Atoms) {
		return nil, api.Fault{Code: api.ErrSyntax, At: c.Atoms[most].At}
	}
	return nil, api.Fault{Code: api.ErrSyntax, At: c.At}
}

// isName and isCode report by bytes whether a text is a name or a code.
func isName(s string) bool {
	return s != "" && len(s) <= 16 && strings.Trim(s, "abcdefghijklmnopqrstuvwxyz0123456789_") == "" && s[0] >= 'a' && s[0] <= 'z'
}

func isCode(s string) bool {
	return s != "" && len(s) <= 8 && !strings.Contains(s, "_") && strings.Trim(s, "0123456789") != ""
}

// declaredBefore returns the entries of a kind that begin with a text.
func declaredBefore(before []api.Clause, kind, text string) []api.Clause {
	return slices.DeleteFunc(slices.Clone(before), func(c api.Clause) bool { return c.Word != kind || c.Atoms[0].Text != text })
}

// faultOfAtom returns the fault of an atom of an entry behind others without a fault, by the definition.
func faultOfAtom(before []api.Clause, c api.Clause, form []string, i int) api.Errno {
	atom := c.Atoms[i]
	kind := map[string]string{"CODE": "element", "CLASS": "class", "NAME": "group"}[form[i]]
	if i > 0 && form[i-1] == "class" || c.Word == "class" {
		kind = "class"
	}
	known := declaredBefore(before, kind, atom.Text)
	switch {
	case kind != "" && i == 0 && c.Word != "connect":
		if valid := map[string]func(string) bool{"element": isCode, "class": isName, "group": isName}[kind]; !valid(atom.Text) {
			return api.ErrName
		}
		if len(known) > 0 {
			return api.ErrTwice
		}
	case kind != "" && len(known) == 0:
		return api.ErrName
	case c.Word == "connect" && i == 1:
		if slices.ContainsFunc(declaredBefore(before, "connect", c.Atoms[0].Text), func(other api.Clause) bool { return other.Atoms[1].Text == atom.Text }) {
			return api.ErrTwice
		}
	case form[i] == "N" && !slices.Contains(wholeNumbers(), atom.N), form[i] == "V" && atom.N > 1000000:
		return api.ErrRange
	case i > 0 && form[i-1] == "lower" && known[0].Atoms[4].N > c.Atoms[4].N:
		return api.ErrConflict
	}
	return api.OK
}

// wholeNumbers returns the numbers from 1 to 30, in thousandths.
func wholeNumbers() []int64 {
	var list []int64
	for n := range int64(30) {
		list = append(list, 1000*n+1000)
	}
	return list
}

// firstFault returns the first fault of a list, by the definition.
func firstFault(list []api.Clause) api.Fault {
	limits := map[string]int{"group": 6, "class": 12, "element": 400, "connect": 144}
	for k, c := range list {
		if limits[c.Word] == 0 {
			continue
		}
		form, f := roles(c)
		if f != (api.Fault{}) {
			return f
		}
		if len(parser.Find(list[:k], c.Word)) >= limits[c.Word] {
			return api.Fault{Code: api.ErrLimit, At: c.At}
		}
		for i, atom := range c.Atoms {
			if code := faultOfAtom(list[:k], c, form, i); code != api.OK {
				return api.Fault{Code: code, At: atom.At}
			}
		}
	}
	return api.Fault{}
}

// bits are the atoms of random entries.
var bits = []string{"a", "b", "c", "A", "B", "group", "limit", "credit", "value", "class", "lower", "1", "0.5", "31", "2000", `"a"`, "+", "a_"}

// randomSource returns a source with random entries, most of which have their forms, behind some that have no fault.
func randomSource(random *rand.Rand) string {
	pick := func(list ...string) string { return list[random.Intn(len(list))] }
	var all strings.Builder
	all.WriteString(pick("", "group a limit 1 credit 0; class b; element A group a value 2;", "class lower; class b; group a limit 1 credit 0; element C group a value 0.5; element A group a value 2 class b lower C;"))
	for range random.Intn(8) {
		kind := pick("group", "class", "element", "element", "connect", "tie")
		words := strings.Fields(pick(append(forms[kind], "NAME")...))
		for i, word := range words {
			switch word {
			case "NAME", "CLASS":
				words[i] = pick("a", "a", "b", "b", "c", "lower")
			case "CODE":
				words[i] = pick("A", "A", "B", "C", "D")
			case "N", "V":
				words[i] = pick("1", "2", "3", "0.5", "30")
			}
			if random.Intn(40) == 0 {
				words[i] = pick(bits...)
			}
		}
		all.WriteString(kind + " " + strings.Join(words, " ") + pick(";", "; ", ";\n"))
	}
	return all.String()
}

func TestLoadOfRandomSources(t *testing.T) {
	random := rand.New(rand.NewSource(60))
	found := map[api.Errno]int{}
	for range 60000 {
		source := randomSource(random)
		list := parsed(t, source)
		want := firstFault(list)
		found[want.Code]++
		c, f := Load(list)
		if f != want || f.Code != api.OK && !same(c, api.Catalog{}) {
			t.Fatalf("Load of %q: %v, %v; want %v", source, c, f, want)
		}
		if f.Code == api.OK {
			checkLoaded(t, list, c)
		}
	}
	for _, code := range []api.Errno{api.OK, api.ErrSyntax, api.ErrName, api.ErrTwice, api.ErrRange, api.ErrConflict} {
		if found[code] < 100 {
			t.Errorf("%v", found)
		}
	}
}

// checkLoaded checks the catalog of entries without a fault against each of them.
func checkLoaded(t *testing.T, list []api.Clause, c api.Catalog) {
	var want api.Catalog
	for _, entry := range list {
		text := func(i int) string { return entry.Atoms[i].Text }
		switch entry.Word {
		case "group":
			want.Groups = append(want.Groups, api.Group{Name: text(0), Limit: int(entry.Atoms[2].N) / 1000, Credit: entry.Atoms[4].N})
		case "class":
			want.Classes = append(want.Classes, text(0))
		case "element":
			e := api.Element{Code: text(0), Group: text(2), Value: entry.Atoms[4].N}
			for i := 5; i < len(entry.Atoms); i += 2 {
				if text(i) == "class" {
					e.Class = text(i + 1)
				} else {
					e.Lower = text(i + 1)
				}
			}
			want.Elements = append(want.Elements, e)
		case "connect":
			want.Connects = append(want.Connects, api.Connect{First: text(0), Second: text(1), Value: entry.Atoms[3].N})
		}
	}
	slices.SortFunc(want.Groups, func(a, b api.Group) int { return strings.Compare(a.Name, b.Name) })
	slices.Sort(want.Classes)
	slices.SortFunc(want.Elements, func(a, b api.Element) int { return strings.Compare(a.Code, b.Code) })
	slices.SortFunc(want.Connects, func(a, b api.Connect) int {
		// No class has a byte below the blank.
		return strings.Compare(a.First+" "+a.Second, b.First+" "+b.Second)
	})
	if !same(c, want) || Check(c) != api.OK {
		t.Errorf("%v, %d; want %v", c, Check(c), want)
	}
}

func TestSyntaxOfRandomAtoms(t *testing.T) {
	random := rand.New(rand.NewSource(61))
	kinds := []string{"group", "class", "element", "connect"}
	fits := 0
	for range 60000 {
		kind := kinds[random.Intn(4)]
		all := forms[kind]
		words := strings.Fields(all[random.Intn(len(all))])
		for i := range words {
			switch {
			case random.Intn(12) == 0:
				words[i] = bits[random.Intn(len(bits))]
			case words[i] == "N" || words[i] == "V":
				words[i] = "1"
			case words[i] == strings.ToUpper(words[i]):
				words[i] = []string{"a", "value", "lower", "class"}[random.Intn(4)]
			}
		}
		switch random.Intn(8) {
		case 0:
			words = words[:random.Intn(len(words)+1)]
		case 1:
			words = append(words, bits[random.Intn(len(bits))])
		}
		list := parsed(t, kind+" "+strings.Join(words, " ")+[]string{";", ";", ";", "{}"}[random.Intn(4)])
		_, want := roles(list[0])
		_, f := Load(list)
		if want.Code == api.OK {
			fits++
		}
		if (want.Code == api.OK) != (f.Code != api.ErrSyntax) || want.Code != api.OK && f != want {
			t.Errorf("Load of %s %q: %v; want %v", kind, words, f, want)
		}
	}
	if fits < 10000 || fits > 50000 {
		t.Errorf("%d entries have their forms", fits)
	}
}

func TestOrderOfEntries(t *testing.T) {
	random := rand.New(rand.NewSource(62))
	list := parsed(t, head+"class e; element W group b value 0; connect d c value 1; connect c c value 1;")
	want, _ := Load(list)
	accepted := 0
	for range 20000 {
		shuffled := copied(list)
		keys := map[int]float64{}
		for _, c := range list {
			keys[c.At] = float64(level(c)) + 1.5*random.Float64()
		}
		slices.SortFunc(shuffled, func(a, b api.Clause) int { return cmp.Compare(keys[a.At], keys[b.At]) })
		if c, f := Load(shuffled); f.Code == api.OK {
			accepted++
			if !same(c, want) {
				t.Errorf("%v; want %v", c, want)
			}
		} else if f.Code != api.ErrName {
			t.Errorf("%v", f)
		}
	}
	if accepted < 100 {
		t.Errorf("%d orders are accepted", accepted)
	}
}

// level returns a number that is mostly less for an entry than for those that need it.
func level(c api.Clause) int {
	if c.Word == "group" || c.Word == "class" {
		return 0
	}
	return len(c.Atoms) / 2
}
