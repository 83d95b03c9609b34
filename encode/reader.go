package encode

import "salchow/api"

// Reader reads an encoding. After the first error all reads return zero values.
type Reader struct {
	s    string
	at   int
	open int
	err  api.Errno
}

// NewReader returns a Reader of s at the offset 0.
func NewReader(s string) *Reader { return &Reader{s: s} }

// read returns the head at the offset, if it has a kind and may stand there, and moves behind it.
func (r *Reader) read(kind int) head {
	if r.err != api.OK {
		return head{}
	}
	h := readHead(r.s, r.at)
	if h.kind != kind || kind == headOpen && r.open == MaxDepth || kind == headClose && r.open == 0 {
		r.err = api.ErrSyntax
		return head{}
	}
	switch kind {
	case headOpen:
		r.open++
	case headClose:
		r.open--
	}
	r.at = h.end
	return h
}

// Int reads an integer.
func (r *Reader) Int() int64 { return r.read(headInt).n }

// Text reads a string.
func (r *Reader) Text() string { return r.read(headText).text }

// Open reads the begin of a list.
func (r *Reader) Open() { r.read(headOpen) }

// Close reads the end of the list that was begun last.
func (r *Reader) Close() { r.read(headClose) }

// More reports whether another value follows in the list that was begun last, or in s if no list is open.
func (r *Reader) More() bool {
	if r.err != api.OK || r.at >= len(r.s) {
		return false
	}
	return r.open == 0 || r.s[r.at] != 'e'
}

// Fail records ErrSyntax at the offset.
func (r *Reader) Fail() {
	if r.err == api.OK {
		r.err = api.ErrSyntax
	}
}

// Err returns the error, or OK.
func (r *Reader) Err() api.Errno { return r.err }

// Offset returns the offset.
func (r *Reader) Offset() int { return r.at }

// End returns the error; if there is none and bytes are left or a list is open, ErrSyntax.
func (r *Reader) End() api.Errno {
	if r.err != api.OK {
		return r.err
	}
	if r.at != len(r.s) || r.open > 0 {
		return api.ErrSyntax
	}
	return api.OK
}
