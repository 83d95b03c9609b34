package catalog

import (
	"math/rand"
	"slices"
	"strconv"
	"strings"
	"testing"

	"salchow/api"
)

// sample returns a valid catalog with two groups, three classes, four elements and three connects.
func sample(t *testing.T) api.Catalog {
	return loaded(t, head+"class e; element W group b value 0; connect d c value 1; connect c c value 1;")
}

// mutation is a change of the sample, and the error that it brings.
type mutation struct {
	name   string
	change func(c *api.Catalog)
	want   api.Errno
}

// mutations returns changes that do not touch each other's parts, in the order of their errors.
func mutations() []mutation {
	const most = api.MaxMilli
	return []mutation{
		{"too many groups", func(c *api.Catalog) {
			c.Groups = slices.Concat(c.Groups, slices.Repeat([]api.Group{{Name: "x", Limit: 1}}, 5))
		}, api.ErrLimit},
		{"too many classes", func(c *api.Catalog) { c.Classes = slices.Concat(c.Classes, slices.Repeat([]string{"x"}, 10)) }, api.ErrLimit},
		{"too many elements", func(c *api.Catalog) {
			c.Elements = slices.Concat(c.Elements, slices.Repeat([]api.Element{{Code: "Z1", Group: "a"}}, 397))
		}, api.ErrLimit},
		{"too many connects", func(c *api.Catalog) {
			c.Connects = slices.Concat(c.Connects, slices.Repeat([]api.Connect{{First: "d", Second: "e"}}, 142))
		}, api.ErrLimit},
		{"no name of a group", func(c *api.Catalog) { c.Groups = append(slices.Clone(c.Groups), api.Group{Name: "Z", Limit: 1}) }, api.ErrName},
		{"no name of a class", func(c *api.Catalog) { c.Classes = append(slices.Clone(c.Classes), "") }, api.ErrName},
		{"no code", func(c *api.Catalog) {
			c.Elements = append(slices.Clone(c.Elements), api.Element{Code: "22", Group: "a"})
		}, api.ErrName},
		{"no group", func(c *api.Catalog) { c.Elements[0].Group = "c" }, api.ErrName},
		{"no class", func(c *api.Catalog) { c.Elements[2].Class = "a" }, api.ErrName},
		{"no lower element", func(c *api.Catalog) { c.Elements[3].Lower = "V" }, api.ErrName},
		{"no first class", func(c *api.Catalog) { c.Connects[0].First = "" }, api.ErrName},
		{"no second class", func(c *api.Catalog) { c.Connects[1].Second = "a" }, api.ErrName},
		{"groups out of order", func(c *api.Catalog) { slices.Reverse(c.Groups) }, api.ErrTwice},
		{"classes out of order", func(c *api.Catalog) { slices.Reverse(c.Classes) }, api.ErrTwice},
		{"elements out of order", func(c *api.Catalog) { slices.Reverse(c.Elements) }, api.ErrTwice},
		{"connects out of order", func(c *api.Catalog) { slices.Reverse(c.Connects) }, api.ErrTwice},
		{"a group twice", func(c *api.Catalog) { c.Groups = append(c.Groups, c.Groups[1]) }, api.ErrTwice},
		{"a class twice", func(c *api.Catalog) { c.Classes = append(c.Classes, c.Classes[2]) }, api.ErrTwice},
		{"an element twice", func(c *api.Catalog) { c.Elements = append(c.Elements, c.Elements[3]) }, api.ErrTwice},
		{"a connect twice", func(c *api.Catalog) { c.Connects = append(c.Connects, c.Connects[2]) }, api.ErrTwice},
		{"the limit 0", func(c *api.Catalog) { c.Groups[0].Limit = 0 }, api.ErrRange},
		{"a great limit", func(c *api.Catalog) { c.Groups[1].Limit = 31 }, api.ErrRange},
		{"a negative limit", func(c *api.Catalog) { c.Groups[1].Limit = -1 << 63 }, api.ErrRange},
		{"a negative credit", func(c *api.Catalog) { c.Groups[0].Credit = -1 }, api.ErrRange},
		{"a great credit", func(c *api.Catalog) { c.Groups[1].Credit = most + 1 }, api.ErrRange},
		{"a negative value", func(c *api.Catalog) { c.Elements[0].Value = -1 }, api.ErrRange},
		{"a great value", func(c *api.Catalog) { c.Elements[3].Value = most + 1 }, api.ErrRange},
		{"a negative bonus", func(c *api.Catalog) { c.Connects[0].Value = -1 }, api.ErrRange},
		{"a great bonus", func(c *api.Catalog) { c.Connects[2].Value = most + 1 }, api.ErrRange},
		{"a lower element with a greater value", func(c *api.Catalog) { c.Elements[1].Value = 1501 }, api.ErrConflict},
		{"an element below itself", func(c *api.Catalog) { c.Elements[0].Lower = "W" }, api.ErrConflict},
		{"a chain that does not end", func(c *api.Catalog) { c.Elements[1].Lower, c.Elements[1].Value = "Z", 1500 }, api.ErrConflict},
	}
}

func TestCheckOfChanges(t *testing.T) {
	if e := Check(sample(t)); e != api.OK {
		t.Fatalf("Check: %d", e)
	}
	all := mutations()
	for i, m := range all {
		c := sample(t)
		m.change(&c)
		before := copiedCatalog(c)
		if e := Check(c); e != m.want || !same(c, before) {
			t.Errorf("%s: %d; want %d", m.name, e, m.want)
		}
		// Of two errors the one that is named first counts.
		for k, other := range all {
			if other.want == m.want {
				continue
			}
			c := sample(t)
			if i < k {
				m.change(&c)
				other.change(&c)
			} else {
				other.change(&c)
				m.change(&c)
			}
			if e := Check(c); e != all[min(i, k)].want {
				t.Errorf("%s, %s: %d; want %d", m.name, other.name, e, all[min(i, k)].want)
			}
		}
	}
}

func TestCheckOfValidCatalogs(t *testing.T) {
	for name, change := range map[string]func(c *api.Catalog){
		"empty":              func(c *api.Catalog) { *c = api.Catalog{} },
		"empty lists":        func(c *api.Catalog) { *c = api.Catalog{Groups: []api.Group{}, Classes: []string{}} },
		"the limit 30":       func(c *api.Catalog) { c.Groups[0].Limit = 30 },
		"the greatest value": func(c *api.Catalog) { c.Elements[3].Value, c.Groups[0].Credit = api.MaxMilli, api.MaxMilli },
		"the value 0":        func(c *api.Catalog) { c.Connects[0].Value, c.Groups[1].Credit = 0, 0 },
		"equal values":       func(c *api.Catalog) { c.Elements[1].Value, c.Elements[2].Value = 1500, 1500 },
		"no classes":         func(c *api.Catalog) { c.Classes, c.Connects, c.Elements[2].Class = nil, nil, "" },
		"no elements":        func(c *api.Catalog) { c.Elements = nil },
		"two chains":         func(c *api.Catalog) { c.Elements[3].Lower = "X" },
	} {
		c := sample(t)
		change(&c)
		if e := Check(c); e != api.OK {
			t.Errorf("%s: %d", name, e)
		}
		if d, f := Load(Clauses(c)); f != (api.Fault{}) || !same(c, d) {
			t.Errorf("%s: %v, %v", name, d, f)
		}
	}
	long := loaded(t, elementsBehindGroup())
	if e := Check(long); e != api.OK || len(Chain(long, "E399")) != 400 {
		t.Errorf("a long chain: %d", e)
	}
	long.Elements[0].Lower, long.Elements[0].Value = "E399", 499
	for i := range long.Elements {
		long.Elements[i].Value = 499
	}
	if e := Check(long); e != api.ErrConflict {
		t.Errorf("a long chain that does not end: %d", e)
	}
}

// entryOf returns the entry of an element, or of another thing, by its form.
func entryOf(text ...string) string { return strings.Join(text, " ") + ";" }

// milli returns the source of a number of thousandths that is not negative.
func milli(n int64) string {
	return strconv.FormatInt(n/1000, 10) + "." + strconv.FormatInt(1000+n%1000, 10)[1:]
}

// loadable reports whether Load returns a catalog for some entries: whether it does so for those of the catalog, of which an element stands behind its lower one.
func loadable(t *testing.T, c api.Catalog) bool {
	source := ""
	for _, g := range c.Groups {
		source += entryOf("group", g.Name, "limit", strconv.Itoa(g.Limit), "credit", milli(g.Credit))
	}
	for _, class := range c.Classes {
		source += entryOf("class", class)
	}
	done := map[string]bool{"": true}
	for range c.Elements {
		for _, e := range c.Elements {
			if done[e.Code] || !done[e.Lower] {
				continue
			}
			done[e.Code] = true
			words := []string{"element", e.Code, "group", e.Group, "value", milli(e.Value)}
			if e.Class != "" {
				words = append(words, "class", e.Class)
			}
			if e.Lower != "" {
				words = append(words, "lower", e.Lower)
			}
			source += entryOf(words...)
		}
	}
	for _, p := range c.Connects {
		source += entryOf("connect", p.First, p.Second, "value", milli(p.Value))
	}
	d, f := Load(parsed(t, source))
	return f.Code == api.OK && same(c, d)
}

// draw returns a random catalog, which is mostly valid.
func draw(random *rand.Rand) api.Catalog {
	var c api.Catalog
	for _, name := range []string{"acro", "jump", "spin"}[random.Intn(2):] {
		c.Groups = append(c.Groups, api.Group{Name: name, Limit: 1 + random.Intn(30), Credit: int64(random.Intn(3000))})
	}
	for _, name := range []string{"c", "d", "e_1"}[:random.Intn(4)] {
		c.Classes = append(c.Classes, name)
	}
	for i := range random.Intn(9) {
		e := api.Element{Code: string(rune('A'+i)) + strconv.Itoa(random.Intn(3)), Group: c.Groups[random.Intn(len(c.Groups))].Name, Value: int64(random.Intn(5))}
		if random.Intn(2) == 0 && len(c.Classes) > 0 {
			e.Class = c.Classes[random.Intn(len(c.Classes))]
		}
		c.Elements = append(c.Elements, e)
	}
	for i := range c.Elements {
		other := c.Elements[random.Intn(len(c.Elements))]
		e := &c.Elements[i]
		if random.Intn(3) > 0 && (other.Value < e.Value || other.Value == e.Value && other.Code < e.Code) {
			e.Lower = other.Code
		}
	}
	for _, first := range c.Classes {
		for _, second := range c.Classes {
			if random.Intn(2) == 0 {
				c.Connects = append(c.Connects, api.Connect{First: first, Second: second, Value: int64(random.Intn(2000))})
			}
		}
	}
	return c
}

// disturb changes something of a catalog.
func disturb(random *rand.Rand, c *api.Catalog) {
	words := []string{"", "c", "d", "jump", "A", "A0", "B1", "C2", "f"}
	word := words[random.Intn(len(words))]
	switch i := random.Intn(8); {
	case i == 0:
		c.Groups[random.Intn(len(c.Groups))].Name = "jump"
	case i == 1 && len(c.Classes) > 0:
		c.Classes[random.Intn(len(c.Classes))] = "d"
	case i == 2 && len(c.Connects) > 0:
		c.Connects[random.Intn(len(c.Connects))] = api.Connect{First: "c", Second: "d", Value: int64(random.Intn(2)) * 1000001}
	case i == 3:
		c.Groups[random.Intn(len(c.Groups))].Limit = random.Intn(40)
	case len(c.Elements) == 0:
	case i == 4:
		c.Elements[random.Intn(len(c.Elements))].Class = word
	case i == 5:
		c.Elements[random.Intn(len(c.Elements))].Lower = word
	case i == 6:
		c.Elements[random.Intn(len(c.Elements))].Lower = c.Elements[random.Intn(len(c.Elements))].Code
	default:
		c.Elements[random.Intn(len(c.Elements))].Value = int64(random.Intn(5))
	}
}

func TestCheckIsThatOfLoad(t *testing.T) {
	random := rand.New(rand.NewSource(63))
	found := map[api.Errno]int{}
	for range 8000 {
		c := draw(random)
		if !loadable(t, c) || Check(c) != api.OK {
			t.Fatalf("Check(%v): %d", c, Check(c))
		}
		for range random.Intn(3) {
			disturb(random, &c)
		}
		e := Check(c)
		found[e]++
		if (e == api.OK) != loadable(t, c) {
			t.Errorf("Check(%v): %d", c, e)
		}
	}
	if found[api.OK] < 2000 || found[api.ErrName] < 200 || found[api.ErrTwice] < 200 || found[api.ErrRange] < 200 || found[api.ErrConflict] < 200 {
		t.Errorf("%v", found)
	}
}
