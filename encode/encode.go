// Package encode is layer 2: the canonical encoding of integers, strings and lists. See shared/doc/02-encode.md.
package encode

// MaxDepth is how many lists may be open within each other.
const MaxDepth = 32

// Skip returns the offset behind the value that begins at an offset of s, and whether there is one.
func Skip(s string, at int) (int, bool) {
	end, depth := measure(s, at)
	return end, depth >= 0
}

// Valid reports whether s is the encoding of one value.
func Valid(s string) bool { return Depth(s) >= 0 }

// Depth returns how many lists are within each other in the encoding of one value, or -1.
func Depth(s string) int {
	end, depth := measure(s, 0)
	if end != len(s) {
		return -1
	}
	return depth
}

// Split returns the encodings of the elements of an encoded list, and whether s is one.
func Split(s string) ([]string, bool) {
	if Depth(s) < 1 {
		return nil, false
	}
	var list []string
	for at := 1; s[at] != 'e'; {
		end, _ := measure(s, at)
		list = append(list, s[at:end])
		at = end
	}
	return list, true
}

// measure returns the offset behind the value that begins at an offset of s, and its depth; 0 and -1 if none begins there.
func measure(s string, at int) (int, int) {
	if at < 0 {
		return 0, -1
	}
	open, depth := 0, 0
	for {
		h := readHead(s, at)
		switch h.kind {
		case headNone:
			return 0, -1
		case headOpen:
			open++
			depth = max(depth, open)
		case headClose:
			open--
		}
		if open < 0 || open > MaxDepth {
			return 0, -1
		}
		at = h.end
		if open == 0 {
			return at, depth
		}
	}
}
