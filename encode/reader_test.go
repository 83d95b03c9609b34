package encode

import (
	"math"
	"strings"
	"testing"

	"salchow/api"
)

// state compares the offset, the error and the end of a Reader.
func state(t *testing.T, r *Reader, at int, e, end api.Errno) {
	t.Helper()
	if r.Offset() != at || r.Err() != e || r.End() != end {
		t.Errorf("Offset %d, Err %d, End %d; it should be %d, %d, %d", r.Offset(), r.Err(), r.End(), at, e, end)
	}
}

func TestReaderOfAList(t *testing.T) {
	r := NewReader("li1;e")
	state(t, r, 0, api.OK, api.ErrSyntax)
	r.Open()
	state(t, r, 1, api.OK, api.ErrSyntax)
	if !r.More() {
		t.Error("More before the integer")
	}
	if n := r.Int(); n != 1 {
		t.Errorf("Int: %d", n)
	}
	state(t, r, 4, api.OK, api.ErrSyntax)
	if r.More() {
		t.Error("More behind the integer")
	}
	r.Close()
	state(t, r, 5, api.OK, api.OK)
	if r.More() {
		t.Error("More at the end")
	}
}

func TestReaderOfARow(t *testing.T) {
	r := NewReader("i-5;2:ab0:lee")
	if n := r.Int(); n != -5 || !r.More() {
		t.Errorf("Int: %d", n)
	}
	if s := r.Text(); s != "ab" || !r.More() {
		t.Errorf("Text: %q", s)
	}
	if s := r.Text(); s != "" || !r.More() {
		t.Errorf("Text: %q", s)
	}
	r.Open()
	if r.More() {
		t.Error("More in an empty list")
	}
	r.Close()
	state(t, r, 12, api.OK, api.ErrSyntax)
	if !r.More() { // no list is open: e is not the end of one
		t.Error("More before e")
	}
	r.Close()
	state(t, r, 12, api.ErrSyntax, api.ErrSyntax)
}

func TestReaderOfNothing(t *testing.T) {
	r := NewReader("")
	state(t, r, 0, api.OK, api.OK)
	if r.More() || r.Int() != 0 {
		t.Error("there is something")
	}
	state(t, r, 0, api.ErrSyntax, api.ErrSyntax)
}

func TestReaderReads(t *testing.T) {
	for _, c := range []struct {
		s    string
		n    int64
		text string
		end  int
	}{
		{"i0;", 0, "", 3}, {"i-1;", -1, "", 4}, {"i10;i", 10, "", 4}, {"i9223372036854775807;", math.MaxInt64, "", 21}, {"i-9223372036854775808;", math.MinInt64, "", 22}, {"i-9223372036854775807;", -math.MaxInt64, "", 22},
		{"0:", 0, "", 2}, {"2:ab", 0, "ab", 4}, {"2:abc", 0, "ab", 4}, {"10:0123456789", 0, "0123456789", 13}, {"3:\x00\xff;", 0, "\x00\xff;", 5},
	} {
		integer := c.s[0] == 'i'
		r, other := NewReader(c.s), NewReader(c.s)
		if integer {
			if n := r.Int(); n != c.n {
				t.Errorf("Int of %q: %d", c.s, n)
			}
			if s := other.Text(); s != "" {
				t.Errorf("Text of %q: %q", c.s, s)
			}
		} else {
			if s := r.Text(); s != c.text {
				t.Errorf("Text of %q: %q", c.s, s)
			}
			if n := other.Int(); n != 0 {
				t.Errorf("Int of %q: %d", c.s, n)
			}
		}
		if r.Err() != api.OK || r.Offset() != c.end {
			t.Errorf("%q: %d at %d", c.s, r.Err(), r.Offset())
		}
		state(t, other, 0, api.ErrSyntax, api.ErrSyntax)
	}
}

func TestReaderRefuses(t *testing.T) {
	for _, s := range append([]string{
		"", "i", "i;", "i-;", "i05;", "i-0;", "i00;", "i+1;", "i1", "i1e", "i1:", "02:ab", "00:", "3:ab", "1:", ":", "-1:a", "1;a", "9223372036854775807:a", "18446744073709551617:a", "a", ";",
	}, tooGreat...) {
		for name, read := range map[string]func(r *Reader) bool{
			"Int":   func(r *Reader) bool { return r.Int() == 0 },
			"Text":  func(r *Reader) bool { return r.Text() == "" },
			"Open":  func(r *Reader) bool { r.Open(); return true },
			"Close": func(r *Reader) bool { r.Close(); return true },
		} {
			r := NewReader("l" + s)
			r.Open()
			if !read(r) {
				t.Errorf("%s of %q is not zero", name, s)
			}
			state(t, r, 1, api.ErrSyntax, api.ErrSyntax)
		}
	}
}

func TestReaderOpenAndClose(t *testing.T) {
	for s, read := range map[string]func(r *Reader){
		"e":     (*Reader).Close,
		"le":    (*Reader).Close,
		"i1;":   (*Reader).Open,
		"el":    (*Reader).Open,
		"2:le":  (*Reader).Open,
		"0:":    (*Reader).Close,
		"\x00e": (*Reader).Close,
	} {
		r := NewReader(s)
		read(r)
		state(t, r, 0, api.ErrSyntax, api.ErrSyntax)
	}
	r := NewReader("lee")
	r.Open()
	r.Close()
	r.Close() // the list is closed already
	state(t, r, 2, api.ErrSyntax, api.ErrSyntax)
	r = NewReader("li1;e")
	r.Open()
	r.Close() // an integer stands there
	state(t, r, 1, api.ErrSyntax, api.ErrSyntax)
}

func TestReaderDepth(t *testing.T) {
	r := NewReader(nested(MaxDepth + 1))
	for range MaxDepth {
		r.Open()
	}
	state(t, r, MaxDepth, api.OK, api.ErrSyntax)
	r.Open()
	state(t, r, MaxDepth, api.ErrSyntax, api.ErrSyntax)

	r = NewReader(nested(MaxDepth) + nested(MaxDepth))
	for range 2 {
		for range MaxDepth {
			r.Open()
		}
		for range MaxDepth {
			r.Close()
		}
	}
	state(t, r, 4*MaxDepth, api.OK, api.OK)
}

func TestReaderAfterAnError(t *testing.T) {
	r := NewReader("li1;1:ali2;ee")
	r.Open()
	r.Text()
	state(t, r, 1, api.ErrSyntax, api.ErrSyntax)
	if r.Int() != 0 || r.Text() != "" || r.More() {
		t.Error("something is read after an error")
	}
	r.Open()
	r.Close()
	r.Fail()
	state(t, r, 1, api.ErrSyntax, api.ErrSyntax)
}

func TestReaderFail(t *testing.T) {
	r := NewReader("i1;i2;le")
	if r.Int() != 1 {
		t.Error("Int")
	}
	r.Fail()
	state(t, r, 3, api.ErrSyntax, api.ErrSyntax)
	if r.Int() != 0 || r.More() {
		t.Error("something is read after Fail")
	}
	state(t, r, 3, api.ErrSyntax, api.ErrSyntax)
	r = NewReader("")
	r.Fail()
	state(t, r, 0, api.ErrSyntax, api.ErrSyntax)
}

func TestReaderEndRecordsNothing(t *testing.T) {
	r := NewReader("li1;ei2;")
	for r.End() != api.OK {
		if r.Err() != api.OK {
			t.Fatal("End has recorded an error")
		}
		switch r.Offset() {
		case 0:
			r.Open()
		case 4:
			r.Close()
		default:
			r.Int()
		}
	}
	state(t, r, 8, api.OK, api.OK)
	r = NewReader("l") // all is read, but a list is open
	r.Open()
	state(t, r, 1, api.OK, api.ErrSyntax)
	if r.More() {
		t.Error("More at the end of an open list")
	}
}

func TestReaderOfArbitraryBytes(t *testing.T) {
	for b := range 256 {
		for _, s := range []string{string([]byte{byte(b)}), "l" + string([]byte{byte(b)}), strings.Repeat(string([]byte{byte(b)}), 40)} {
			for _, read := range []func(r *Reader){func(r *Reader) { r.Int() }, func(r *Reader) { r.Text() }, (*Reader).Open, (*Reader).Close, (*Reader).Fail} {
				r := NewReader(s)
				read(r)
				if at := r.Offset(); at < 0 || at > len(s) || r.Err() != api.OK && at != 0 {
					t.Errorf("%q: %d at %d", s, r.Err(), at)
				}
			}
		}
	}
}
