package ident

import (
	"math/big"
	"math/rand"
	"slices"
	"strings"
	"testing"
)

// part is a piece of a string as the definition has it: a number, or a byte.
type part struct {
	number *big.Int
	byte   byte
}

// parts divides a string.
func parts(s string) []part {
	var list []part
	for at := 0; at < len(s); {
		end := at
		for end < len(s) && strings.IndexByte(numerals, s[end]) >= 0 {
			end++
		}
		if end > at {
			n, _ := new(big.Int).SetString(s[at:end], 10)
			list = append(list, part{number: n})
			at = end
			continue
		}
		list = append(list, part{byte: s[at]})
		at++
	}
	return list
}

// compareParts compares two pieces.
func compareParts(p, q part) int {
	if p.number != nil && q.number != nil {
		return p.number.Cmp(q.number)
	}
	value := func(x part) int {
		if x.number != nil {
			return 48
		}
		return int(x.byte)
	}
	return min(max(value(p)-value(q), -1), 1)
}

// defined compares two strings as the definition says.
func defined(a, b string) int {
	if c := slices.CompareFunc(parts(a), parts(b), compareParts); c != 0 {
		return c
	}
	return strings.Compare(a, b)
}

// strung returns all strings of at most so many bytes of an alphabet.
func strung(length int, alphabet string) []string {
	all := []string{""}
	last := all
	for range length {
		var next []string
		for _, s := range last {
			for i := range len(alphabet) {
				next = append(next, s+alphabet[i:i+1])
			}
		}
		all = append(all, next...)
		last = next
	}
	return all
}

func TestNaturalFollowsTheDefinition(t *testing.T) {
	for _, list := range [][]string{strung(4, "012a"), strung(3, "/0:9\x00\xffa "), strung(7, "0a"), strung(6, "01")} {
		for _, a := range list {
			for _, b := range list {
				if got := Natural(a, b); got != defined(a, b) {
					t.Fatalf("Natural(%q, %q): %d", a, b, got)
				}
			}
		}
	}
}

func TestNaturalOfLongStrings(t *testing.T) {
	random := rand.New(rand.NewSource(1))
	some := func() string {
		var b strings.Builder
		for range random.Intn(6) {
			switch random.Intn(4) {
			case 0:
				b.WriteString(strings.Repeat("0", random.Intn(30)))
			case 1:
				b.WriteByte(byte(random.Intn(256)))
			default:
				for range random.Intn(40) {
					b.WriteByte(numerals[random.Intn(2)])
				}
			}
		}
		return b.String()
	}
	for range 20000 {
		begin, a, b := some(), some(), some()
		for _, c := range [][2]string{{a, b}, {begin + a, begin + b}, {begin + a, begin + a}, {begin, begin + "0"}} {
			if got := Natural(c[0], c[1]); got != defined(c[0], c[1]) {
				t.Fatalf("Natural(%q, %q): %d", c[0], c[1], got)
			}
		}
	}
}

func TestNaturalOrder(t *testing.T) {
	digits := strings.Repeat("9", 1000)
	list := []string{
		"", "\x00", " ", "/", "0", "00", "000", "0a", "1", "2", "9", "0010", "10", "10a", "010b", "99999999999999999999", "100000000000000000000", digits, "1" + strings.Repeat("0", 1000), ":", "A", "a", "a\x00", "a/", "a0", "a00b", "a0b", "a02", "a2", "a02b", "a2b", "a02b1", "a9", "a10", "a010b", "a:", "aa", "b", "\xff",
	}
	for i, a := range list {
		for k, b := range list {
			want := min(max(i-k, -1), 1)
			if got := Natural(a, b); got != want {
				t.Errorf("Natural(%.20q, %.20q): %d", a, b, got)
			}
		}
	}
}

func TestNaturalExamples(t *testing.T) {
	for _, c := range [][2]string{{"a2", "a10"}, {"a02", "a2"}, {"a9", "aa"}, {"a", "a0"}, {"0", "00"}, {"1a", "a"}, {" ", "7"}, {"7", ":"}, {"/", "7"}, {"a2", "a02b"}, {"x01y2", "x1y02"}, {"x1y2", "x01y10"}} {
		if Natural(c[0], c[1]) != -1 || Natural(c[1], c[0]) != 1 || Natural(c[0], c[0]) != 0 {
			t.Errorf("%q is not less than %q", c[0], c[1])
		}
	}
}

func TestNaturalIsTotal(t *testing.T) {
	list := strung(4, "01a:")
	slices.SortFunc(list, Natural)
	for i, a := range list {
		for k, b := range list {
			if got := Natural(a, b); got != min(max(i-k, -1), 1) {
				t.Fatalf("Natural(%q, %q): %d, at %d and %d", a, b, got, i, k)
			}
		}
	}
}
