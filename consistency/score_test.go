package consistency

import (
	"strconv"
	"strings"
	"testing"

	"salchow/api"
)

// scored is the rules of a segment free, as far as they matter for its score.
type scored struct {
	digits string // 0, if it is empty
	value  string // of the only element, 1, if it is empty
	panels string
	score  string
}

// load returns the ruleset: difficulty is from 0 to the value, and penalties are from 0 to 2.
func (s scored) load(t *testing.T) api.Ruleset {
	t.Helper()
	digits, value := s.digits, s.value
	if digits == "" {
		digits = "0"
	}
	if value == "" {
		value = "1"
	}
	return loaded(t, "discipline figure season 2026; publish "+digits+" down; rank exact; group jump limit 1 credit 0; element A group jump value "+value+"; segment free { count 1; repeat 1; connections 0; penalty fall value 1 most 2; "+s.panels+" score "+s.score+"; }")
}

// hasOverflow checks the place of the overflow of a segment; with "" there is none.
func (s scored) hasOverflow(t *testing.T, want string) {
	t.Helper()
	r := s.load(t)
	findings, e := Check(r)
	got := ""
	for _, f := range findings {
		if f.Kind == Overflow {
			got += strconv.FormatInt(f.N, 10)
		}
	}
	if e != api.OK || got != want || Clean(r) != (want == "") {
		t.Errorf("%+v: an overflow at %q; want %q", s, got, want)
	}
}

// overall returns an entry of an overall panel.
func overall(name, hi, judges, least, drop string) string {
	return "panel " + name + " overall 0 to " + hi + " step 1 judges " + judges + " least " + least + " drop " + drop + " tolerance 1; "
}

// marked returns an entry of an element panel with one judge.
func marked(name, marks, scale string) string {
	return "panel " + name + " elements " + marks + " step 1 judges 1 least 1 drop 0 tolerance 1 scale " + scale + "; "
}

// power returns the product of so many factors.
func power(x string, n int) string {
	return strings.Repeat(x+" * ", n-1) + x
}

// million is a factor with the denominator 1.
const million = "1000000"

func TestOverflowOfDenominators(t *testing.T) {
	const huge = million + " * " + million
	for _, c := range []struct {
		scored
		want string
	}{
		// The boxes are difficulty and penalties, so the root of the formula is the place 2.
		{scored{score: power("difficulty", 6)}, ""},
		{scored{score: power("difficulty", 6), value: "1.001"}, "2"},
		{scored{score: power("difficulty", 6), value: "0"}, ""},
		{scored{score: power("difficulty", 7)}, "2"},
		{scored{score: power("difficulty", 7), value: "0"}, "2"},
		{scored{score: power("penalties", 6)}, "2"},
		{scored{score: power("penalties", 7) + " * 0"}, "2"},
		{scored{score: "0 * (" + power("difficulty", 7) + ")"}, "2"},
		{scored{score: "-(" + power("difficulty", 7) + ")", value: "0"}, "2"},
		{scored{score: "min(0, 1 - (" + power("difficulty", 7) + "))", value: "0"}, "2"},
		{scored{score: "(" + power("difficulty", 7) + ") / 2", value: "0"}, "2"},
		// Numbers: 1/2, 1/8 and 1/1000.
		{scored{score: "0.5 + " + huge + " * 499999"}, ""},
		{scored{score: "0.5 + " + huge + " * 500000"}, "2"},
		{scored{score: "0.125 + " + huge + " * 124999"}, ""},
		{scored{score: "0.125 + " + huge + " * 125000"}, "2"},
		{scored{score: "0.001 - " + huge + " * 1000"}, ""},
		{scored{score: "- 0.001 - " + huge + " * 1000"}, "2"},
		// Sums and the like have the least common multiple, 12 of 4 and 6.
		{scored{score: "0.25 + (1 / 6 + " + huge + " * 83333)"}, ""},
		{scored{score: "0.25 + (1 / 6 + " + huge + " * 83334)"}, "2"},
		{scored{score: "max(0.25, 1 / 6 + " + huge + " * 83333)"}, ""},
		{scored{score: "max(0.25, 1 / 6 + " + huge + " * 83334)"}, "2"},
		{scored{score: "min(0.25, 1 / 6 - " + huge + " * 83333)"}, ""},
		{scored{score: "min(0.25, 1 / 6 - " + huge + " * 83334)"}, "2"},
		{scored{score: "-(0.25 - (1 / 6 - " + huge + " * 83333))"}, ""},
		{scored{score: "-(0.25 - (1 / 6 - " + huge + " * 83334))"}, "2"},
		// Products have the product, even of 4 and 6.
		{scored{score: "0.25 * (1 / 6) + " + huge + " * 41666"}, ""},
		{scored{score: "0.25 * (1 / 6) + " + huge + " * 41667"}, "2"},
		// Quotients have the numerator of the number: 7 of 0.007 and of 1.4.
		{scored{score: "1 / 7 + " + huge + " * 142857"}, ""},
		{scored{score: "1 / 7 + " + huge + " * 142858"}, "2"},
		{scored{score: "1 / 0.007 + " + huge + " * 142857"}, ""},
		{scored{score: "1 / 0.007 + " + huge + " * 142858"}, "2"},
		{scored{score: "1 / 1.4 + " + huge + " * 142857"}, ""},
		{scored{score: "1 / 1.4 + " + huge + " * 142858"}, "2"},
		{scored{score: "0.5 / 1.4 + " + huge + " * 71428"}, ""},
		{scored{score: "0.5 / 1.4 + " + huge + " * 71429"}, "2"},
		{scored{score: "0 / 999999.999 / 999999.999"}, ""},
		{scored{score: "0 / 999999.999 / 999999.999 / 7"}, "2"},
		{scored{score: "min(0, 1 / 999999.999 / 999999.999 + 1 / 7)"}, "2"},
		{scored{score: "0 / 1000000 / 1000000 / 1000000"}, ""},
		{scored{score: "0 / 1000000 / 1000000 / 1000000 / 2"}, "2"},
		// 4 * 10^17 and 6 * 10^17 have a multiple that is too great.
		{scored{score: "0 / 1000000 / 1000000 / 400000 + 0 / 1000000 / 1000000 / 600000"}, "2"},
		{scored{score: "0 / 1000000 / 1000000 / 400000 + 0 / 1000000 / 1000000 / 250000"}, "2"},
		{scored{score: "0 / 1000000 / 1000000 / 250000 + 0 / 1000000 / 1000000 / 500000"}, ""},
	} {
		c.hasOverflow(t, c.want)
	}
}

// multiples are the least common multiples of the numbers of kept marks of panels with judges, least and drop.
var multiples = []struct {
	judges, least, drop string
	multiple            int
}{
	{"1", "1", "0", 1}, {"2", "1", "0", 2}, {"2", "2", "0", 2}, {"3", "1", "0", 6}, {"3", "3", "0", 3}, {"4", "2", "0", 12}, {"15", "15", "0", 15}, {"6", "4", "0", 60},
	{"7", "5", "1", 60}, {"7", "5", "2", 6}, {"7", "5", "3", 1}, {"7", "5", "4", 1}, {"7", "5", "15", 1}, {"7", "7", "3", 1}, {"7", "6", "3", 1}, {"9", "7", "1", 210}, {"9", "1", "3", 6}, {"9", "6", "3", 6}, {"9", "7", "3", 6}, {"9", "8", "3", 6}, {"9", "9", "3", 3}, {"8", "8", "4", 1}, {"9", "8", "4", 1},
	{"15", "13", "1", 1716}, {"15", "9", "0", 180180}, {"15", "1", "0", 360360}, {"15", "8", "0", 360360}, {"14", "7", "0", 360360}, {"15", "13", "0", 2730},
}

func TestOverflowOfPanels(t *testing.T) {
	for _, c := range multiples {
		// An overall panel has the denominator 1000 * multiple: with a mark of 1000 points, the product is 2 * 10^12 * multiple * factor.
		factor := 500000 / c.multiple
		panel := overall("zeal", "1000", c.judges, c.least, c.drop)
		scored{panels: panel, score: "zeal * 2 * " + million + " * " + strconv.Itoa(factor)}.hasOverflow(t, "")
		scored{panels: panel, score: "zeal * 2 * " + million + " * " + strconv.Itoa(factor+1)}.hasOverflow(t, "3")
		// An element panel with the marks 0 has only its denominator, 10^9 * multiple.
		panel = strings.NewReplacer("overall", "elements", "to 1000", "to 0", "tolerance 1", "tolerance 1 scale 1").Replace(panel)
		scored{panels: panel, score: "zeal / 2000 / " + strconv.Itoa(factor)}.hasOverflow(t, "")
		scored{panels: panel, score: "zeal / 2000 / " + strconv.Itoa(factor+1)}.hasOverflow(t, "3")
	}
}

func TestOverflowOfPlaces(t *testing.T) {
	const huge = million + " * " + million + " * " + million
	for _, c := range []struct {
		scored
		want string
	}{
		// Boxes: an element panel of up to 30 * value * mark * scale / 10^9 with the denominator 10^9.
		{scored{value: "1000", panels: marked("art", "0 to 33.333", "1000"), score: "1"}, ""},
		{scored{value: "1000", panels: marked("art", "0 to 33.334", "1000"), score: "1"}, "0"},
		{scored{value: "1000", panels: marked("art", "- 33.333 to 0", "1000"), score: "1"}, ""},
		{scored{value: "1000", panels: marked("art", "- 33.334 to 0", "1000"), score: "1"}, "0"},
		{scored{value: "1000", panels: marked("goe", "0 to 33.334", "1000"), score: "1"}, "1"},
		{scored{value: "1000", panels: marked("zeal", "0 to 33.334", "1000"), score: "1"}, "2"},
		{scored{value: "1000", panels: marked("zeal", "0 to 33.334", "1000") + marked("art", "0 to 0", "1"), score: "1"}, "3"},
		{scored{value: "1000", panels: marked("zeal", "0 to 33.334", "1000") + marked("art", "0 to 33.334", "1000"), score: "1"}, "0"},
		{scored{value: "0", panels: marked("art", "- 1000 to 1000", "1000"), score: "1"}, ""},
		{scored{value: "1000", panels: marked("art", "- 1000 to 1000", "0"), score: "1"}, ""},
		// 30 * 999999^3 / 10^9 is no fraction: the first node overflows, unless a box does.
		{scored{value: "999.999", panels: marked("art", "0 to 999.999", "999.999"), score: "1"}, "3"},
		{scored{value: "999.999", panels: marked("art", "- 999.999 to 999.999", "999.999"), score: "difficulty"}, "3"},
		{scored{value: "999.999", panels: marked("art", "- 999.999 to 0", "999.999"), score: "min(0, difficulty) + art"}, "3"},
		{scored{value: "999.999", panels: marked("art", "- 33.333 to 999.999", "999.999"), score: "1"}, "3"},
		{scored{value: "999.999", panels: marked("art", "- 33.334 to 999.999", "999.999"), score: "1"}, "0"},
		{scored{value: "999.999", panels: marked("art", "- 999.999 to 33.334", "999.999"), score: "1"}, "0"},
		{scored{value: "999.999", panels: marked("art", "- 999.999 to 33.333", "999.999"), score: "1"}, "3"},
		{scored{value: "999.999", panels: marked("art", "- 999.999 to 1000", "999.999"), score: "1"}, "0"},
		{scored{value: "999.999", panels: marked("art", "0 to 999.999", "999.999") + marked("zeal", "0 to 33.334", "1000"), score: "1"}, "3"},
		{scored{value: "999.999", panels: marked("art", "0 to 999.999", "999.999") + marked("zeal", "0 to 33.333", "1000"), score: "1"}, "4"},
		// Bounds that are out of range are so for the root.
		{scored{score: "0 * (" + huge + " * 2)"}, "2"},
		{scored{score: "min(0, " + huge + " * 2)"}, "2"},
		{scored{score: "min(0, " + huge + " + 1)"}, "2"},
		{scored{score: "max(0, 0 - (" + huge + ") * 0.001 - " + huge + ")"}, "2"},
		{scored{score: "(" + huge + ") / 0.999"}, "2"},
		{scored{score: "(" + huge + ") / 1.001 - 1"}, "2"},
		// Nodes below a root that does not overflow: their kids in order.
		{scored{score: "min(0, " + huge + " * difficulty)"}, "4"},
		{scored{score: "min(" + huge + " * difficulty, 0)"}, "3"},
		{scored{score: "min(0, " + huge + " * difficulty - difficulty)"}, "4"},
		{scored{score: "min(0, max(1, " + huge + " * difficulty))"}, "4"},
		{scored{score: "max(-" + huge + " * difficulty, 0)"}, "3"},
		{scored{score: "max(-(" + huge + " * difficulty), 0)"}, "3"},
		{scored{score: "max(0, min(0, max(-(" + huge + " * difficulty), 0 - difficulty)))"}, "7"},
		{scored{score: "max(0, min(0, max(0 - difficulty, -(" + huge + " * difficulty))))"}, "10"},
		{scored{score: "min(0, " + huge + " * difficulty) + 1 / 999999 / 999999 / 999999", value: "1"}, "2"},
		{scored{score: "min(0, " + huge + ")"}, ""},
		{scored{score: "min(difficulty, " + huge + " / 1000)"}, ""},
		{scored{score: "min(0.5, " + huge + ")"}, ""},
		{scored{score: "min(1, " + huge + " - difficulty)", value: "1"}, "4"},
		{scored{score: "min(1, " + huge + " / 1000 - difficulty)", value: "1"}, ""},
		// Publication: the whole score times 10^digits.
		{scored{score: huge}, "-1"},
		{scored{score: "-" + huge}, "-1"},
		{scored{score: huge + " - 1"}, ""},
		{scored{score: "1 - " + huge}, ""},
		{scored{score: huge + " / 10", digits: "1"}, "-1"},
		{scored{score: huge + " / 10 - 1", digits: "1"}, ""},
		{scored{score: huge + " / 10"}, ""},
		{scored{score: huge + " / 100 - 0.01", digits: "2"}, ""},
		{scored{score: huge + " / 100", digits: "2"}, "-1"},
		{scored{score: huge + " / 1000 - 0.001", digits: "3"}, ""},
		{scored{score: "0.001 - " + huge + " / 1000", digits: "3"}, ""},
		{scored{score: huge + " / 1000", digits: "3"}, "-1"},
		{scored{score: huge + " / 1000", digits: "2"}, ""},
		{scored{score: "-" + huge + " / 1000", digits: "3"}, "-1"},
		{scored{score: "difficulty - " + huge + " / 1000", digits: "3"}, "-1"},
		{scored{score: million + " * 1000 * " + million + " * difficulty", digits: "3"}, "-1"},
		{scored{score: million + " * 1000 * " + million + " * -difficulty", digits: "3"}, "-1"},
		{scored{score: million + " * 1000 * " + million + " * difficulty", digits: "3", value: "0.999"}, ""},
		{scored{score: huge + " / 7", digits: "1"}, "-1"},
		{scored{score: huge + " / 7"}, ""},
		{scored{score: huge + " / 13", digits: "1"}, ""},
		{scored{score: huge + " / 999.999", digits: "3"}, "2"},
		{scored{score: huge + " / 999999", digits: "3"}, ""},
		{scored{score: "-" + huge + " / 999999", digits: "3"}, ""},
		{scored{score: huge + " / 999"}, ""},
		{scored{score: huge + " / 999", digits: "2"}, ""},
		{scored{score: huge + " / 999", digits: "3"}, "-1"},
	} {
		c.hasOverflow(t, c.want)
	}
}

func TestFlat(t *testing.T) {
	panels := overall("art", "1", "1", "1", "0") + marked("zeal", "0 to 1", "1")
	for score, want := range map[string]string{
		"1": "flat: free art 0, flat: free zeal 0", "art": "flat: free zeal 0", "zeal - zeal": "flat: free art 0", "0 * art + difficulty / 2 * min(1, -zeal)": "", "max(penalties, art) + zeal": "",
	} {
		if list := texts(t, scored{panels: panels, score: score}.load(t)); strings.Join(list, ", ") != want {
			t.Errorf("Check with the score %s: %q", score, list)
		}
	}
}
