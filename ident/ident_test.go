package ident

import (
	"math"
	"strings"
	"testing"

	"salchow/api"
)

const (
	lowerCase = "abcdefghijklmnopqrstuvwxyz"
	upperCase = "ABCDEFGHIJKLMNOPQRSTUVWXYZ"
	numerals  = "0123456789"
)

// word is a check of strings, with a string that it accepts and the bytes that may stand there in place of the first, the second and the last byte.
type word struct {
	check               func(s string) bool
	sample              string
	first, second, last string
}

// words returns the checks by their names.
func words() map[string]word {
	var printable []byte
	for c := byte(33); c < 127; c++ {
		if c != '"' {
			printable = append(printable, c)
		}
	}
	visible := string(printable)
	name, code := lowerCase+numerals+"_", lowerCase+upperCase+numerals
	return map[string]word{
		"Name":       {Name, "vault", lowerCase, name, name},
		"Federation": {Federation, "AUT", upperCase, upperCase, upperCase},
		"Code":       {Code, "CSp", code, code, code},
		"Title":      {Title, "Anna Maria", visible, visible + " ", visible},
	}
}

func TestBytesOfWords(t *testing.T) {
	for name, w := range words() {
		if !w.check(w.sample) {
			t.Errorf("%s(%q) is false", name, w.sample)
		}
		for c := range 256 {
			for at, permitted := range map[int]string{0: w.first, 1: w.second, len(w.sample) - 1: w.last} {
				b := []byte(w.sample)
				b[at] = byte(c)
				want := strings.IndexByte(permitted, byte(c)) >= 0
				if got := w.check(string(b)); got != want {
					t.Errorf("%s(%q): %v", name, b, got)
				}
			}
		}
	}
}

func TestLengthsOfWords(t *testing.T) {
	for name, c := range map[string]struct {
		check       func(s string) bool
		letter      string
		least, most int
	}{
		"Name": {Name, "a", 1, 16}, "Federation": {Federation, "A", 3, 3}, "Code": {Code, "A", 1, 8}, "Title": {Title, "a", 1, 40},
	} {
		for n := range 100 {
			if got := c.check(strings.Repeat(c.letter, n)); got != (n >= c.least && n <= c.most) {
				t.Errorf("%s of %d letters: %v", name, n, got)
			}
		}
		if c.check(strings.Repeat(c.letter, 1<<16)) {
			t.Errorf("%s of many letters", name)
		}
	}
}

func TestWords(t *testing.T) {
	for s, want := range map[string][4]bool{ // Name, Federation, Code, Title
		"vault":             {true, false, true, true},
		"bars_2":            {true, false, false, true},
		"Vault":             {false, false, true, true},
		"2bars":             {false, false, true, true},
		"_bars":             {false, false, false, true},
		"a":                 {true, false, true, true},
		"A":                 {false, false, true, true},
		"_":                 {false, false, false, true},
		"7":                 {false, false, false, true},
		"3A":                {false, false, true, true},
		"33":                {false, false, false, true},
		"12345678":          {false, false, false, true},
		"1234567x":          {false, false, true, true},
		"12345678x":         {false, false, false, true},
		"AUT":               {false, true, true, true},
		"AuT":               {false, false, true, true},
		"AU1":               {false, false, true, true},
		"AUTX":              {false, false, true, true},
		"AU":                {false, false, true, true},
		"Anna Maria":        {false, false, false, true},
		" Anna":             {},
		"Anna ":             {},
		" ":                 {},
		"":                  {},
		"An\"na":            {},
		"\"":                {},
		"An\tna":            {},
		"Zoë":               {},
		"Anna\n":            {},
		"a\x00":             {},
		"~!@#$%^&*()'`\\":   {false, false, false, true},
		"abcdefghijklmnop":  {true, false, false, true},
		"abcdefghijklmnopq": {false, false, false, true},
	} {
		if got := [4]bool{Name(s), Federation(s), Code(s), Title(s)}; got != want {
			t.Errorf("%q: %v", s, got)
		}
	}
	if Title(" "+strings.Repeat("a", 39)) || Title(strings.Repeat("a", 39)+" ") || !Title(strings.Repeat("a", 19)+"  "+strings.Repeat("b", 19)) {
		t.Error("blanks in a title of 40 bytes")
	}
}

func TestBib(t *testing.T) {
	for n, want := range map[int]bool{1: true, 2: true, 9998: true, 9999: true, 0: false, -1: false, 10000: false, math.MaxInt: false, math.MinInt: false, 1<<32 + 1: false} {
		if got := Bib(n); got != want {
			t.Errorf("Bib(%d): %v", n, got)
		}
	}
	if api.MaxBib != 9999 {
		t.Error("MaxBib")
	}
}
