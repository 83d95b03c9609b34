package season

import (
	"math/rand"
	"slices"
	"sort"
	"strings"
	"testing"

	"salchow/api"
	"salchow/ruleset"
)

// randomRules returns a random ruleset.
func randomRules(t *testing.T, random *rand.Rand) api.Ruleset {
	t.Helper()
	pick := func(list ...string) string { return list[random.Intn(len(list))] }
	source := "discipline " + pick("figure", "bars") + " season " + pick("1", "2026", "2027") + "; publish " + pick("0", "3") + " " + pick("down", "half_up") + "; rank " + pick("exact", "published") + "; group jump limit " + pick("1", "2") + " credit " + pick("0", "0.5") + "; class a; "
	classes := "a"
	for _, class := range []string{"b", "c"} {
		if random.Intn(2) == 0 {
			source, classes = source+"class "+class+"; ", classes+class
		}
	}
	if random.Intn(2) == 0 {
		source += "group spin limit 1 credit 0; "
	}
	// Each element may have any of those before it as its lower one.
	codes := strings.Fields("1A 2A 3A A B CSp a b1")
	random.Shuffle(len(codes), func(i, j int) { codes[i], codes[j] = codes[j], codes[i] })
	codes = codes[:random.Intn(len(codes)+1)]
	for i, code := range codes {
		source += "element " + code + " group jump value " + pick("1", "1.5")
		if random.Intn(2) == 0 {
			source += " class " + string(classes[random.Intn(len(classes))])
		}
		if i > 0 && random.Intn(4) > 0 {
			source = source[:strings.LastIndex(source, "value ")] + "value 1" + pick(" class a", "") + " lower " + codes[random.Intn(i)]
			source = strings.ReplaceAll(source, "value 1.5", "value 1")
		}
		source += "; "
	}
	for _, first := range classes {
		for _, second := range classes {
			if random.Intn(2) == 0 {
				source += "connect " + string(first) + " " + string(second) + " value " + pick("0", "1") + "; "
			}
		}
	}
	source += "segment free { count " + pick("1", "2") + "; repeat 1; connections 0; score " + pick("difficulty", "difficulty + 1", "-(penalties)") + "; } "
	if random.Intn(2) == 0 {
		source += "segment short { repeat 1; connections " + pick("1", "2") + "; score difficulty; count 1; } "
	}
	if random.Intn(2) == 0 {
		source += "tie " + pick("free", "best", "best free") + ";"
	}
	return loaded(t, source)
}

// valuesOf returns the parts of a ruleset, read from the lines of its canonical source.
func valuesOf(t *testing.T, r api.Ruleset) map[string]string {
	t.Helper()
	source, e := ruleset.Source(r)
	if e != api.OK {
		t.Fatalf("Source: %d", e)
	}
	values, key := map[string]string{}, ""
	for _, line := range strings.SplitAfter(source, "\n") {
		if line != "" && line[0] != ' ' && line[0] != '}' {
			words := strings.Fields(strings.TrimRight(line, ";{\n"))
			named := map[string]int{"group": 1, "class": 1, "element": 1, "segment": 1, "connect": 2}[words[0]]
			key = strings.Join(words[:1+named], " ")
		}
		values[key] += line
	}
	return values
}

// keysOf returns the keys of maps, sorted, each once.
func keysOf(all ...map[string]string) []string {
	var list []string
	for _, values := range all {
		for key := range values {
			if !slices.Contains(list, key) {
				list = append(list, key)
			}
		}
	}
	sort.Strings(list)
	return list
}

func TestPartsOfRandomRules(t *testing.T) {
	random := rand.New(rand.NewSource(95))
	chains := 0
	for range 3000 {
		r := randomRules(t, random)
		values := valuesOf(t, r)
		var want []api.Part
		for _, key := range keysOf(values) {
			want = append(want, api.Part{Key: key, Value: values[key]})
			if strings.Contains(values[key], " lower ") {
				chains++
			}
		}
		parts := partsOf(t, r)
		if !slices.Equal(parts, want) {
			t.Errorf("Parts: %q; want %q", parts, want)
		}
		if built, e := Build(parts); e != api.OK || !ruleset.Equal(built, r) {
			t.Errorf("Build of %q: %d", parts, e)
		}
	}
	if chains < 3000 {
		t.Errorf("only %d elements have a lower one", chains)
	}
}

func TestAmendmentsOfRandomRules(t *testing.T) {
	random := rand.New(rand.NewSource(96))
	for range 2000 {
		a, b, c := randomRules(t, random), randomRules(t, random), randomRules(t, random)
		before, after := valuesOf(t, a), valuesOf(t, b)
		var want []api.Amend
		for _, key := range keysOf(before, after) {
			if before[key] != after[key] {
				want = append(want, api.Amend{Key: key, Old: before[key], New: after[key]})
			}
		}
		first, second := diff(t, a, b), diff(t, b, c)
		if !slices.Equal(first, want) {
			t.Errorf("Diff: %q; want %q", first, want)
		}
		if r, e := Apply(a, first); e != api.OK || !ruleset.Equal(r, b) {
			t.Errorf("Apply of %q: %d", first, e)
		}
		if r, e := Apply(b, Invert(first)); e != api.OK || !ruleset.Equal(r, a) || !slices.Equal(Invert(first), diff(t, b, a)) {
			t.Errorf("Apply of the inverse of %q: %d", first, e)
		}
		if list, e := Compose(first, second); e != api.OK || !slices.Equal(list, diff(t, a, c)) {
			t.Errorf("Compose of %q and %q: %q, %d", first, second, list, e)
		}
		if list, e := Compose(first, Invert(first)); e != api.OK || len(list) != 0 || len(diff(t, a, a)) != 0 {
			t.Errorf("Compose of %q and its inverse: %q, %d", first, list, e)
		}
		// Apply a part of the amendments: what remains leads to b, too.
		var some []api.Amend
		for _, amend := range first {
			if random.Intn(4) > 0 {
				some = append(some, amend)
			}
		}
		if r, e := Apply(a, some); e == api.OK {
			rest, _ := Compose(Invert(some), first)
			if last, e := Apply(r, rest); e != api.OK || !ruleset.Equal(last, b) || !slices.Equal(rest, diff(t, r, b)) {
				t.Errorf("Apply of %q and then %q: %d", some, rest, e)
			}
		} else if e != api.ErrState {
			t.Errorf("Apply of %q: %d", some, e)
		}
	}
}

// randomAmends returns amendments of a few keys, which are mostly orderly.
func randomAmends(random *rand.Rand) []api.Amend {
	pick := func() string { return []string{"", "x", "y"}[random.Intn(3)] }
	var list []api.Amend
	for _, key := range []string{"a", "b", "c", "d"} {
		if random.Intn(2) == 0 {
			continue
		}
		amend := api.Amend{Key: key, Old: pick(), New: pick()}
		if amend.Old == amend.New && random.Intn(8) > 0 {
			amend.New += "z"
		}
		list = append(list, amend)
	}
	if random.Intn(16) == 0 {
		random.Shuffle(len(list), func(i, j int) { list[i], list[j] = list[j], list[i] })
	}
	return list
}

func TestComposeOfRandomAmendments(t *testing.T) {
	random := rand.New(rand.NewSource(97))
	found := map[api.Errno]int{}
	orderly := func(list []api.Amend) bool {
		for i, amend := range list {
			if amend.Old == amend.New || i > 0 && strings.Compare(list[i-1].Key, amend.Key) != -1 {
				return false
			}
		}
		return true
	}
	for range 20000 {
		first, second := randomAmends(random), randomAmends(random)
		var want []api.Amend
		e := api.OK
		for _, key := range []string{"a", "b", "c", "d"} {
			has := func(amend api.Amend) bool { return amend.Key == key }
			i, j := slices.IndexFunc(first, has), slices.IndexFunc(second, has)
			switch {
			case i >= 0 && j >= 0 && first[i].New != second[j].Old:
				e = api.ErrConflict
			case i >= 0 && j >= 0 && first[i].Old != second[j].New:
				want = append(want, api.Amend{Key: key, Old: first[i].Old, New: second[j].New})
			case i >= 0 && j < 0:
				want = append(want, first[i])
			case i < 0 && j >= 0:
				want = append(want, second[j])
			}
		}
		if !orderly(first) || !orderly(second) {
			e = api.ErrOrder
		}
		if e != api.OK {
			want = nil
		}
		found[e]++
		if list, got := Compose(first, second); got != e || !slices.Equal(list, want) {
			t.Errorf("Compose of %q and %q: %q, %d; want %q, %d", first, second, list, got, want, e)
		}
	}
	if found[api.OK] < 2000 || found[api.ErrConflict] < 2000 || found[api.ErrOrder] < 2000 {
		t.Errorf("%v", found)
	}
}
