package ident

import (
	"cmp"
	"strings"
)

// Natural compares two strings, runs of digits by their numbers: -1, 0 or 1.
func Natural(a, b string) int {
	nextA, nextB := pieces(a), pieces(b)
	for {
		p, q := nextA(), nextB()
		if c := order(p, q); c != 0 {
			return c
		}
		if p.kind == pieceEnd {
			return strings.Compare(a, b)
		}
	}
}

// The kinds of pieces that are no bytes, which are less than all bytes, and as great as the byte 0.
const (
	pieceEnd    = -1
	pieceNumber = '0'
)

// piece is a piece of a string, or its end. The kind of a byte that is no digit is the byte.
type piece struct {
	kind   int
	number string // its digits without leading zeros, so there is no bound
}

// pieces returns a function that takes one piece of s after the other.
func pieces(s string) func() piece {
	return func() piece {
		n := 0
		for n < len(s) && digit(s[n]) {
			n++
		}
		p := piece{kind: pieceEnd}
		switch {
		case n > 0:
			p = piece{pieceNumber, strings.TrimLeft(s[:n], "0")}
		case s != "":
			n = 1
			p.kind = int(s[0])
		}
		s = s[n:]
		return p
	}
}

// order compares two pieces. Of two numbers without leading zeros the one with more digits is greater.
func order(p, q piece) int {
	return cmp.Or(
		cmp.Compare(p.kind, q.kind),
		cmp.Compare(len(p.number), len(q.number)),
		strings.Compare(p.number, q.number),
	)
}
