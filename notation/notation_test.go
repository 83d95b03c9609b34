package notation

import (
	"math"
	"math/rand"
	"slices"
	"strings"
	"testing"

	"salchow/api"
)

// randomItems returns so many items of which each is as one of a line can be.
func randomItems(random *rand.Rand, n int) []api.Item {
	codes := []string{"3A", "2T", "FUSSp4", "a", "CSp", "ABCDEFG8", "1z"}
	var items []api.Item
	for range n {
		items = append(items, api.Item{Code: codes[random.Intn(len(codes))], Down: max(random.Intn(2*MaxDown+1)-MaxDown, 0), Review: random.Intn(3) == 0, Void: random.Intn(3) == 0, Joined: random.Intn(2) == 0})
	}
	return items
}

// properItems returns items of a random line.
func properItems(random *rand.Rand) []api.Item {
	items := randomItems(random, random.Intn(api.MaxItems+1))
	if len(items) > 0 {
		items[len(items)-1].Joined = false
	}
	return items
}

// canonical returns the line with one blank between the chains of a line and the marks of each item in their order.
func canonical(line string) string {
	return marksForm.ReplaceAllStringFunc(strings.Join(strings.Fields(line), " "), func(marks string) string {
		sorted := []byte(marks)
		slices.SortFunc(sorted, func(a, b byte) int { return strings.IndexByte("<?*", a) - strings.IndexByte("<?*", b) })
		return string(sorted)
	})
}

func TestMaxDown(t *testing.T) {
	if MaxDown != 9 {
		t.Error(MaxDown)
	}
}

// checkPrint checks the canonical line of the items of a line that has no fault.
func checkPrint(t *testing.T, line string) {
	t.Helper()
	items, f := Parse(line)
	want := canonical(line)
	if s, e := Print(items); s != want || e != api.OK || f != (api.Fault{}) {
		t.Errorf("Print of the items of %q: %q, %d; want %q", line, s, e, want)
	}
	if s, f := Normalize(line); s != want || f != (api.Fault{}) {
		t.Errorf("Normalize(%q): %q, %v; want %q", line, s, f, want)
	}
	if again, f := Parse(want); f != (api.Fault{}) || !slices.Equal(again, items) {
		t.Errorf("Parse(%q): %v, %v; want %v", want, again, f, items)
	}
	if len(want) > len(line) {
		t.Errorf("the canonical line %q is longer than %q", want, line)
	}
}

func TestPrintAndNormalize(t *testing.T) {
	random := rand.New(rand.NewSource(191))
	lines := shortLines(5)
	for range 3000 {
		lines = append(lines, randomLine(random))
	}
	lines = append(lines, strings.Repeat("ABCDEFGH<<<<<<<<<?*+", 29)+"ABCDEFGH<<<<<<<<<?*", " 3A+2T<?  FUSSp4* ", "3A*<", "a?*<<", "a<*<?<")
	proper := 0
	for _, line := range lines {
		if _, f := Parse(line); f != (api.Fault{}) {
			if s, g := Normalize(line); s != "" || g != f {
				t.Errorf("Normalize(%q): %q, %v; want %v", line, s, g, f)
			}
			continue
		}
		checkPrint(t, line)
		proper++
	}
	if proper < 2000 {
		t.Errorf("%d lines without a fault", proper)
	}
	for line, want := range map[string]string{" 3A+2T<?  FUSSp4* ": "3A+2T<? FUSSp4*", "3A*<": "3A<*", "a?*<<": "a<<?*", "": "", "   ": ""} {
		if s, f := Normalize(line); s != want || f != (api.Fault{}) {
			t.Errorf("Normalize(%q): %q, %v", line, s, f)
		}
	}
}

func TestParseOfPrint(t *testing.T) {
	random := rand.New(rand.NewSource(192))
	for range 3000 {
		items := properItems(random)
		before := slices.Clone(items)
		line, e := Print(items)
		if e != api.OK || Check(items) != api.OK {
			t.Errorf("Print(%v): %d", items, e)
		}
		if again, f := Parse(line); f != (api.Fault{}) || !slices.Equal(again, items) {
			t.Errorf("Parse(%q): %v, %v; want %v", line, again, f, items)
		}
		if !slices.Equal(items, before) {
			t.Errorf("the items %v have changed", before)
		}
	}
	if line, e := Print(nil); line != "" || e != api.OK {
		t.Errorf("Print of no items: %q, %d", line, e)
	}
}

// checkErrors checks the results of Check and Print for items that are perhaps not proper.
func checkErrors(t *testing.T, items []api.Item, want api.Errno) {
	t.Helper()
	before := slices.Clone(items)
	if e := Check(items); e != want {
		t.Errorf("Check(%v): %d; want %d", items, e, want)
	}
	if line, e := Print(items); e != want || want != api.OK && line != "" {
		t.Errorf("Print(%v): %q, %d; want %d", items, line, e, want)
	}
	if !slices.Equal(items, before) {
		t.Errorf("the items %v have changed", before)
	}
}

func TestErrorsOfSingleItems(t *testing.T) {
	for down, want := range map[int]api.Errno{0: api.OK, 1: api.OK, 8: api.OK, 9: api.OK, 10: api.ErrRange, 11: api.ErrRange, -1: api.ErrRange, math.MaxInt: api.ErrRange, math.MinInt: api.ErrRange} {
		checkErrors(t, []api.Item{{Code: "3A", Down: down}}, want)
		checkErrors(t, []api.Item{{Code: "3A", Down: down, Joined: true}, {Code: "2T", Review: true, Void: true}}, want)
		checkErrors(t, []api.Item{{Code: "2T"}, {Code: "3A"}, {Code: "3A", Down: down}}, want)
	}
	for code, want := range map[string]api.Errno{"a": api.OK, "3A": api.OK, "ABCDEFG8": api.OK, "": api.ErrName, "33": api.ErrName, "ABCDEFGH8": api.ErrName, "3A<": api.ErrName, "a b": api.ErrName, " a": api.ErrName, "a+b": api.ErrName, "ä": api.ErrName, "a_": api.ErrName} {
		checkErrors(t, []api.Item{{Code: code}}, want)
		checkErrors(t, []api.Item{{Code: code, Joined: true}, {Code: "2T"}}, want)
		checkErrors(t, []api.Item{{Code: "2T"}, {Code: "3A"}, {Code: code}}, want)
	}
	checkErrors(t, nil, api.OK)
	checkErrors(t, []api.Item{{}}, api.ErrName)
	checkErrors(t, []api.Item{{Code: "a", Joined: true}}, api.ErrOrder)
	checkErrors(t, []api.Item{{Code: "a"}, {Code: "b", Joined: true}}, api.ErrOrder)
	checkErrors(t, []api.Item{{Code: "a", Joined: true}, {Code: "b"}}, api.OK)
}

func TestOrderOfErrors(t *testing.T) {
	random := rand.New(rand.NewSource(193))
	for range 3000 {
		items := randomItems(random, 1+random.Intn(api.MaxItems))
		items[len(items)-1].Joined = false
		want := api.OK
		if random.Intn(2) == 0 {
			items[len(items)-1].Joined = true
			want = api.ErrOrder
		}
		if random.Intn(2) == 0 {
			items[random.Intn(len(items))].Down = []int{-1, 10}[random.Intn(2)]
			want = api.ErrRange
		}
		if random.Intn(2) == 0 {
			items[random.Intn(len(items))].Code = []string{"", "33", "123456789a"}[random.Intn(3)]
			want = api.ErrName
		}
		if random.Intn(4) == 0 {
			items = append(randomItems(random, api.MaxItems+random.Intn(3)), items...)
			want = api.ErrLimit
		}
		checkErrors(t, items, want)
	}
}

func TestLimitOfItems(t *testing.T) {
	for n, want := range map[int]api.Errno{29: api.OK, 30: api.OK, 31: api.ErrLimit, 32: api.ErrLimit, 100000: api.ErrLimit} {
		checkErrors(t, slices.Repeat([]api.Item{{Code: "a", Joined: true}, {Code: "b"}}, n)[n:], want)
	}
}
