package lexer

import (
	"strconv"
	"strings"

	"salchow/api"
)

// maxWord is the greatest number of bytes of a word.
const maxWord = 32

// maxDecimals is the greatest number of digits behind the point of a number.
const maxDecimals = 3

// The kinds of bytes.
const (
	other      = 0 // belongs to strings and comments only
	blank      = 1
	hash       = 2
	quote      = 3
	letter     = 4
	digit      = 5
	underscore = 6
	point      = 7
	sign       = 8

	kindCount = 9
)

// kinds has the kinds of the bytes below 128; all bytes above are of the kind other.
var kinds = [128]uint8{
	'\t': blank, '\n': blank, '\r': blank, ' ': blank,
	'#': hash, '"': quote, '_': underscore, '.': point,
	'(': sign, ')': sign, '+': sign, '-': sign, '*': sign, '/': sign,
	',': sign, '=': sign, ';': sign, '{': sign, '}': sign,
	'0': digit, '1': digit, '2': digit, '3': digit, '4': digit,
	'5': digit, '6': digit, '7': digit, '8': digit, '9': digit,
	'A': letter, 'B': letter, 'C': letter, 'D': letter, 'E': letter, 'F': letter, 'G': letter,
	'H': letter, 'I': letter, 'J': letter, 'K': letter, 'L': letter, 'M': letter, 'N': letter,
	'O': letter, 'P': letter, 'Q': letter, 'R': letter, 'S': letter, 'T': letter, 'U': letter,
	'V': letter, 'W': letter, 'X': letter, 'Y': letter, 'Z': letter,
	'a': letter, 'b': letter, 'c': letter, 'd': letter, 'e': letter, 'f': letter, 'g': letter,
	'h': letter, 'i': letter, 'j': letter, 'k': letter, 'l': letter, 'm': letter, 'n': letter,
	'o': letter, 'p': letter, 'q': letter, 'r': letter, 's': letter, 't': letter, 'u': letter,
	'v': letter, 'w': letter, 'x': letter, 'y': letter, 'z': letter,
}

// kindOf returns the kind of a byte.
func kindOf(c byte) uint8 {
	if int(c) >= len(kinds) {
		return other
	}
	return kinds[c]
}

// tally returns how many bytes of each kind a text has.
func tally(text string) [kindCount]int {
	var counts [kindCount]int
	for i := range len(text) {
		counts[kindOf(text[i])]++
	}
	return counts
}

// runLength returns the length of the longest run with which a text begins.
func runLength(text string) int {
	for i := range len(text) {
		switch kindOf(text[i]) {
		case letter, digit, underscore, point:
		default:
			return i
		}
	}
	return len(text)
}

// wordlike reports whether a text is a word, but perhaps too long.
func wordlike(text string) bool {
	counts := tally(text)
	return counts[letter] > 0 && counts[letter]+counts[digit]+counts[underscore] == len(text)
}

// numerals reports whether a text consists of digits.
func numerals(text string) bool {
	return text != "" && tally(text)[digit] == len(text)
}

// thousandths returns the value of a number.
func thousandths(text string) (int64, api.Errno) {
	whole, decimals, pointed := strings.Cut(text, ".")
	if !numerals(whole) || len(whole) > 1 && whole[0] == '0' {
		return 0, api.ErrSyntax
	}
	if pointed && (!numerals(decimals) || len(decimals) > maxDecimals) {
		return 0, api.ErrSyntax
	}
	padding := strings.Repeat("0", maxDecimals-len(decimals))
	n, err := strconv.ParseInt(whole+decimals+padding, 10, 64)
	if err != nil || n > api.MaxNumber {
		return 0, api.ErrRange
	}
	return n, api.OK
}

// titled returns OK for a title, ErrLimit for a text that is none by its length alone, and ErrSyntax for all other texts, the empty one among them.
func titled(text string) api.Errno {
	if text == "" || text[0] == ' ' || text[len(text)-1] == ' ' {
		return api.ErrSyntax
	}
	for i := range len(text) {
		if text[i] < ' ' || text[i] > '~' || kindOf(text[i]) == quote {
			return api.ErrSyntax
		}
	}
	if len(text) > api.MaxTitle {
		return api.ErrLimit
	}
	return api.OK
}
