package encode

import (
	"math"
	"math/rand"
	"slices"
	"strconv"
	"strings"
	"testing"
)

// tooGreat are encodings of integers but for their size.
var tooGreat = []string{"i9223372036854775808;", "i-9223372036854775809;", "i18446744073709551617;", "i10000000000000000000;", "i-99999999999999999999;"}

// nested returns so many lists within each other.
func nested(depth int) string {
	return strings.Repeat("l", depth) + strings.Repeat("e", depth)
}

// encodings returns the encodings of the values whose encodings have at most a length and consist of bytes of alphabet, with the depths. It follows the definition of a value, not the code.
func encodings(length int, alphabet string) map[string]int {
	within := func(s string) bool { return strings.Trim(s, alphabet) == "" }
	values := make([]map[string]int, length+1) // by length
	rows := make([]map[string]int, length+1)   // rows of values one after the other, with the greatest depth
	rows[0] = map[string]int{"": 0}
	texts := []string{""}
	for n := 0; n <= length; n++ {
		values[n] = map[string]int{}
		for _, text := range texts {
			if s := strconv.Itoa(len(text)) + ":" + text; len(s) == n && within(s) {
				values[n][s] = 0
			}
		}
		for i := -9999; i <= 9999; i++ {
			if s := "i" + strconv.Itoa(i) + ";"; len(s) == n && within(s) {
				values[n][s] = 0
			}
		}
		if n >= 2 {
			for row, depth := range rows[n-2] {
				values[n]["l"+row+"e"] = depth + 1
			}
		}
		if n > 0 {
			rows[n] = map[string]int{}
		}
		for k := 1; k <= n; k++ {
			for first, depth := range values[k] {
				for row, other := range rows[n-k] {
					rows[n][first+row] = max(depth, other)
				}
			}
		}
		texts = longer(texts, alphabet)
	}
	all := map[string]int{}
	for _, m := range values {
		for s, depth := range m {
			all[s] = depth
		}
	}
	return all
}

// longer returns the strings of list and those with one byte of alphabet more, up to three bytes.
func longer(list []string, alphabet string) []string {
	next := []string{""}
	for _, s := range list {
		for i := range len(alphabet) {
			if len(s) < 3 {
				next = append(next, s+alphabet[i:i+1])
			}
		}
	}
	return next
}

func TestAllShortStrings(t *testing.T) {
	const alphabet, length = "i-012;:le", 6
	all := encodings(length, alphabet)
	if len(all) < 200 {
		t.Fatalf("too few encodings: %d", len(all))
	}
	var check func(s string)
	check = func(s string) {
		depth, valid := all[s]
		if !valid {
			depth = -1
		}
		if d := Depth(s); d != depth || Valid(s) != valid {
			t.Fatalf("%q: Depth %d, Valid %v; it should be %d, %v", s, d, Valid(s), depth, valid)
		}
		checkSkip(t, all, s)
		if len(s) == length {
			return
		}
		for i := range len(alphabet) {
			check(s + alphabet[i:i+1])
		}
	}
	check("")
}

// checkSkip compares Skip at all offsets of s with the known encodings.
func checkSkip(t *testing.T, all map[string]int, s string) {
	t.Helper()
	for at := -1; at <= len(s)+1; at++ {
		want := 0
		for end := at + 1; at >= 0 && end <= len(s); end++ {
			if _, ok := all[s[at:end]]; ok {
				if want != 0 {
					t.Fatalf("%q has a proper prefix that is an encoding", s[at:end])
				}
				want = end
			}
		}
		if end, ok := Skip(s, at); end != want || ok != (want > 0) {
			t.Fatalf("Skip(%q, %d): %d, %v; it should be %d", s, at, end, ok, want)
		}
	}
}

func TestDepth(t *testing.T) {
	for s, depth := range map[string]int{
		"i0;": 0, "i-1;": 0, "i10;": 0, "i-5;": 0, "i9223372036854775807;": 0, "i-9223372036854775808;": 0, "2:ab": 0, "0:": 0, "10:0123456789": 0, "3:\x00\xffe": 0, "2:le": 0,
		"le": 1, "li1;i2;e": 1, "lle0:e": 2, "l0:lee": 2, "li-5;2:able0:e": 2, "llelleei1;e": 3, nested(MaxDepth): MaxDepth, "l" + nested(MaxDepth-1) + "1:ae": MaxDepth,
		strings.Repeat("l", MaxDepth) + "i1;1:a" + strings.Repeat("e", MaxDepth): MaxDepth,
	} {
		if d := Depth(s); d != depth || !Valid(s) {
			t.Errorf("Depth(%q): %d, %v", s, d, Valid(s))
		}
		if end, ok := Skip("x"+s+"y", 1); end != len(s)+1 || !ok {
			t.Errorf("Skip of %q: %d, %v", s, end, ok)
		}
		for _, other := range []string{s + "e", s + s, s + " ", "l" + s, " " + s, s[:len(s)-1], s[1:]} {
			if d := Depth(other); d != -1 || Valid(other) {
				t.Errorf("Depth(%q): %d, %v", other, d, Valid(other))
			}
		}
	}
}

func TestMaxDepth(t *testing.T) {
	if MaxDepth != 32 || !Valid(nested(32)) || Valid(nested(33)) {
		t.Errorf("MaxDepth: %d", MaxDepth)
	}
}

func TestNoEncodings(t *testing.T) {
	for _, s := range append([]string{
		"", "i05;", "i-0;", "i00;", "i-01;", "i;", "i-;", "i--1;", "i+1;", "i1", "i", "i-", "i1:", "i 1;", "i1 ;", "i1.5;", "ia;", "I1;",
		"02:ab", "00:", "3:ab", "-1:a", "+1:a", ":", ":a", "1", "1;a", "1:", "2:a", "9223372036854775807:", "9223372036854775808:a", "18446744073709551617:a", "99999999999999999999:a", "a", "1a", "\xff",
		"l", "e", "el", "li1;", "lle", "li1e", "li01;e", "l1:e", "l2:ae", "lee", "i1;i1;", "lele", "0:0:", "l;e", "l,e", nested(MaxDepth + 1), strings.Repeat("l", 100000),
	}, tooGreat...) {
		if d := Depth(s); d != -1 || Valid(s) {
			t.Errorf("Depth(%q): %d, %v", s, d, Valid(s))
		}
		if l, ok := Split(s); len(l) != 0 || ok {
			t.Errorf("Split(%q): %q, %v", s, l, ok)
		}
	}
}

func TestSkip(t *testing.T) {
	for _, c := range []struct {
		s       string
		at, end int
	}{
		{"i1;2:ab", 0, 3}, {"i1;2:ab", 3, 7}, {"i1;2:ab", 7, 0}, {"i1;2:ab", 8, 0}, {"i1;2:ab", -1, 0}, {"i1;2:ab", 1, 0}, {"i1;2:ab", 5, 0}, {"i1;2:ab", math.MaxInt, 0}, {"i1;2:ab", math.MinInt, 0},
		{"le", 0, 2}, {"le", 1, 0}, {"li1;lee?", 0, 7}, {"li1;lee?", 4, 6}, {"li1;lee?", 6, 0}, {"12:abcdefghijkl", 0, 15}, {"12:abcdefghijkl", 1, 5}, {"", 0, 0},
		{nested(MaxDepth + 1), 0, 0}, {nested(MaxDepth + 1), 1, 1 + 2*MaxDepth}, {"l" + tooGreat[0] + "e", 0, 0}, {"0:l", 0, 2}, {"0:l", 2, 0},
	} {
		if end, ok := Skip(c.s, c.at); end != c.end || ok != (c.end > 0) {
			t.Errorf("Skip(%q, %d): %d, %v", c.s, c.at, end, ok)
		}
	}
}

func TestSplit(t *testing.T) {
	for s, want := range map[string][]string{
		"le": {}, "li1;le0:e": {"i1;", "le", "0:"}, "lle0:e": {"le", "0:"}, "l2:lee": {"2:le"}, "lli1;ele2:abli2;lleeee": {"li1;e", "le", "2:ab", "li2;lleee"},
		nested(MaxDepth): {nested(MaxDepth - 1)},
	} {
		if l, ok := Split(s); !slices.Equal(l, want) || !ok {
			t.Errorf("Split(%q): %q, %v", s, l, ok)
		}
	}
	for _, s := range []string{"i1;", "0:", "2:le", "lei1;", "lele", "l", "li1;", "e", "", "li01;e", nested(MaxDepth + 1)} {
		if l, ok := Split(s); len(l) != 0 || ok {
			t.Errorf("Split(%q): %q, %v", s, l, ok)
		}
	}
}

// value is a value to be encoded: an integer, a string, or a list.
type value struct {
	kind int
	n    int64
	text string
	list []value
}

// randomValue returns a value whose depth is at most depth.
func randomValue(random *rand.Rand, depth int) value {
	v := value{kind: random.Intn(3)}
	switch v.kind {
	case 0:
		v.n = int64(random.Uint64()) >> random.Intn(64)
	case 1:
		text := make([]byte, random.Intn(14))
		random.Read(text)
		v.text = string(text)
	case 2:
		for depth > 0 && random.Intn(4) > 0 {
			v.list = append(v.list, randomValue(random, depth-1))
		}
		if depth == 0 {
			v.kind = 0
		}
	}
	return v
}

// defined returns the encoding of a value as the chapter defines it.
func defined(v value) string {
	switch v.kind {
	case 0:
		return "i" + strconv.FormatInt(v.n, 10) + ";"
	case 1:
		return strconv.Itoa(len(v.text)) + ":" + v.text
	}
	s := "l"
	for _, x := range v.list {
		s += defined(x)
	}
	return s + "e"
}

// write appends a value.
func write(w *Writer, v value) {
	switch v.kind {
	case 0:
		w.Int(v.n)
	case 1:
		w.Text(v.text)
	case 2:
		w.Open()
		for _, x := range v.list {
			write(w, x)
		}
		w.Close()
	}
}

// readBack reads a value, and reports whether it is v.
func readBack(r *Reader, v value) bool {
	switch v.kind {
	case 0:
		return r.Int() == v.n
	case 1:
		return r.Text() == v.text
	}
	r.Open()
	for _, x := range v.list {
		if !r.More() || !readBack(r, x) {
			return false
		}
	}
	ended := !r.More()
	r.Close()
	return ended
}

func TestWrittenValuesAreReadBack(t *testing.T) {
	random := rand.New(rand.NewSource(2))
	for range 3000 {
		v := value{kind: 2}
		for range random.Intn(5) {
			v.list = append(v.list, randomValue(random, 5))
		}
		var w Writer
		write(&w, v)
		s := w.Data()
		if s != defined(v) || !Valid(s) {
			t.Fatalf("%q should be %q", s, defined(v))
		}
		r := NewReader(s)
		if !readBack(r, v) || r.Err() != 0 || r.End() != 0 || r.Offset() != len(s) {
			t.Fatalf("%q is not read back: %d at %d", s, r.End(), r.Offset())
		}
		list, ok := Split(s)
		if !ok || len(list) != len(v.list) {
			t.Fatalf("Split(%q): %q, %v", s, list, ok)
		}
		for i, x := range v.list {
			if list[i] != defined(x) {
				t.Fatalf("Split(%q): %q", s, list)
			}
		}
		for end := range len(s) {
			if Valid(s[:end]) {
				t.Fatalf("%q is a proper prefix of %q", s[:end], s)
			}
		}
	}
}
