package encode

import (
	"math"
	"strings"
	"testing"
)

// expect compares what a Writer has.
func expect(t *testing.T, w *Writer, data string, depth int) {
	t.Helper()
	if s := w.Data(); s != data || w.Depth() != depth {
		t.Errorf("Data: %q, Depth: %d; it should be %q, %d", s, w.Depth(), data, depth)
	}
}

func TestWriter(t *testing.T) {
	var w Writer
	expect(t, &w, "", 0)
	w.Close()
	expect(t, &w, "", 0)
	w.Open()
	expect(t, &w, "le", 1)
	w.Int(-5)
	w.Text("ab")
	w.Open()
	expect(t, &w, "li-5;2:ablee", 2)
	expect(t, &w, "li-5;2:ablee", 2)
	w.Close()
	expect(t, &w, "li-5;2:ablee", 1)
	w.Text("")
	w.Close()
	expect(t, &w, "li-5;2:able0:e", 0)
	w.Close()
	expect(t, &w, "li-5;2:able0:e", 0)
	w.Int(0)
	expect(t, &w, "li-5;2:able0:ei0;", 0)
}

func TestWriterInt(t *testing.T) {
	for n, want := range map[int64]string{
		0: "i0;", 1: "i1;", -1: "i-1;", 9: "i9;", 10: "i10;", -10: "i-10;", 1000000007: "i1000000007;", -1000000000000000000: "i-1000000000000000000;",
		math.MaxInt64: "i9223372036854775807;", math.MinInt64: "i-9223372036854775808;", math.MinInt64 + 1: "i-9223372036854775807;",
	} {
		var w Writer
		w.Int(n)
		expect(t, &w, want, 0)
	}
}

func TestWriterText(t *testing.T) {
	long := strings.Repeat("x", 12345)
	for s, want := range map[string]string{"": "0:", "ab": "2:ab", "le": "2:le", "\x00\xff": "2:\x00\xff", "é": "2:é", "0123456789": "10:0123456789", long: "12345:" + long} {
		var w Writer
		w.Text(s)
		expect(t, &w, want, 0)
	}
}

func TestWriterKnowsNoMaxDepth(t *testing.T) {
	var w Writer
	for range MaxDepth + 9 {
		w.Open()
	}
	expect(t, &w, nested(MaxDepth+9), MaxDepth+9)
	for range MaxDepth + 9 {
		w.Close()
	}
	expect(t, &w, nested(MaxDepth+9), 0)
}

func TestCopiesOfAWriterAreIndependent(t *testing.T) {
	var begin Writer
	begin.Open()
	for n := range 5 {
		begin.Int(int64(n))
		first, second := begin, begin
		first.Text("a")
		second.Int(7)
		second.Close()
		begin.Open()
		prefix := strings.TrimRight(begin.Data(), "e")
		expect(t, &first, strings.TrimSuffix(prefix, "l")+"1:a"+strings.Repeat("e", n+1), n+1)
		expect(t, &second, strings.TrimSuffix(prefix, "l")+"i7;"+strings.Repeat("e", n+1), n)
	}
	expect(t, &begin, "li0;li1;li2;li3;li4;leeeeee", 6)
}

func TestWriterManyPieces(t *testing.T) {
	var w Writer
	for range 200000 {
		w.Text("ab")
	}
	expect(t, &w, strings.Repeat("2:ab", 200000), 0)
}
