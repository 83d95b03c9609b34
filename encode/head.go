package encode

import "math"

// The kinds of heads.
const (
	headNone  = 0 // nothing that can be read
	headInt   = 1
	headText  = 2
	headOpen  = 3
	headClose = 4
)

// head is an integer, a string, or the begin or end of a list, as it stands in an encoding.
type head struct {
	kind int
	n    int64  // of an integer
	text string // of a string
	end  int    // the offset behind it
}

// maxDigits is how many digits a number can have: that many always fit in 64 bits, and one more never fits in an int64.
const maxDigits = 19

// readHead returns the head at an offset of s that is not negative.
func readHead(s string, at int) head {
	if at >= len(s) {
		return head{}
	}
	switch s[at] {
	case 'i':
		return readInt(s, at+1)
	case 'l':
		return head{kind: headOpen, end: at + 1}
	case 'e':
		return head{kind: headClose, end: at + 1}
	}
	return readText(s, at)
}

// readInt returns the head of an integer, whose sign or digits stand at an offset.
func readInt(s string, at int) head {
	negative := at < len(s) && s[at] == '-'
	if negative {
		at++
	}
	m, end := readNumber(s, at, ';')
	limit := uint64(math.MaxInt64)
	if negative {
		limit++
	}
	if end == 0 || m > limit || negative && m == 0 {
		return head{}
	}
	n := int64(m)
	if negative {
		n = -n
	}
	return head{kind: headInt, n: n, end: end}
}

// readText returns the head of a string, whose length stands at an offset.
func readText(s string, at int) head {
	length, begin := readNumber(s, at, ':')
	if begin == 0 || length > uint64(len(s)-begin) {
		return head{}
	}
	end := begin + int(length)
	return head{kind: headText, text: s[begin:end], end: end}
}

// readNumber returns the number at an offset, which has no unnecessary zeros and ends with a mark, and the offset behind the mark; 0 and 0 if there is none.
func readNumber(s string, at int, mark byte) (uint64, int) {
	n, end := uint64(0), at
	for end < len(s) && end-at < maxDigits && s[end] >= '0' && s[end] <= '9' {
		n = n*10 + uint64(s[end]-'0')
		end++
	}
	if end == at || end == len(s) || s[end] != mark || s[at] == '0' && end-at > 1 {
		return 0, 0
	}
	return n, end + 1
}
