package encode

import "bytes"

// Writer builds an encoding. The zero Writer is empty.
type Writer struct {
	// The pieces are never changed, so that a copy of a Writer goes on independently; a slice would be shared with the copy.
	last *piece
	size int
	open int
}

// piece is something that was appended, and what stands before it.
type piece struct {
	before *piece
	text   string
}

// add appends bytes.
func (w *Writer) add(text string) {
	w.last = &piece{w.last, text}
	w.size += len(text)
}

// Int appends an integer.
func (w *Writer) Int(n int64) {
	w.add("i" + decimal(n) + ";")
}

// Text appends a string.
func (w *Writer) Text(s string) {
	w.add(decimal(int64(len(s))) + ":" + s)
}

// Open begins a list.
func (w *Writer) Open() {
	w.add("l")
	w.open++
}

// Close ends the list that was begun last, if one is open.
func (w *Writer) Close() {
	if w.open == 0 {
		return
	}
	w.add("e")
	w.open--
}

// Depth returns the number of open lists.
func (w *Writer) Depth() int { return w.open }

// Data returns what was appended, with all open lists ended.
func (w *Writer) Data() string {
	// What the pieces do not cover remains: the ends of the open lists.
	data := bytes.Repeat([]byte{'e'}, w.size+w.open)
	at := w.size
	for p := w.last; p != nil; p = p.before {
		at -= len(p.text)
		copy(data[at:], p.text)
	}
	return string(data)
}

// decimal returns the decimal digits of n, with - before a negative one.
func decimal(n int64) string {
	var digits [maxDigits + 1]byte
	rest := uint64(n)
	if n < 0 {
		rest = 0 - rest
	}
	at := len(digits) - 1
	digits[at] = byte('0' + rest%10)
	for rest >= 10 {
		rest /= 10
		at--
		digits[at] = byte('0' + rest%10)
	}
	if n < 0 {
		at--
		digits[at] = '-'
	}
	return string(digits[at:])
}
