package blake

import (
	"strconv"
	"strings"
	"testing"
)

func TestHex(t *testing.T) {
	for b, want := range map[string]string{"": "", "\x00\xff": "00ff", "\x1f": "1f", "\xf1": "f1", "az\n": "617a0a", "\x9a\xbc\xde": "9abcde"} {
		if got := Hex(b); got != want {
			t.Errorf("Hex(%q): %q", b, got)
		}
	}
	for i := range 256 {
		want := strconv.FormatInt(int64(i), 16)
		if i < 16 {
			want = "0" + want
		}
		b := string([]byte{byte(i)})
		if got := Hex(b); got != want {
			t.Errorf("Hex of %d: %q", i, got)
		}
		if got, ok := Unhex(want); !ok || got != b {
			t.Errorf("Unhex(%q): %q, %v", want, got, ok)
		}
	}
}

func TestUnhexOfTwoBytes(t *testing.T) {
	results := map[string]string{}
	for i := range 256 {
		b := string([]byte{byte(i)})
		results[Hex(b)] = b
	}
	for i := range 256 * 256 {
		s := string([]byte{byte(i >> 8), byte(i)})
		want, isResult := results[s]
		if got, ok := Unhex(s); got != want || ok != isResult {
			t.Fatalf("Unhex(%q): %q, %v", s, got, ok)
		}
	}
}

func TestUnhex(t *testing.T) {
	all := make([]byte, 256)
	for i := range all {
		all[i] = byte(i)
	}
	for _, b := range []string{"", "a", "\x00", string(all), strings.Repeat("\xc3", 1001)} {
		if got, ok := Unhex(Hex(b)); !ok || got != b {
			t.Errorf("Unhex of Hex(%q): %q, %v", b, got, ok)
		}
	}
	for _, s := range []string{"0", "00f", "00fF", "0G", "g0", "00 ", " 00", "0x00", "00\n", "0000g0", "zz00", "00-1", "é0", "Ff", strings.Repeat("0", 999)} {
		if got, ok := Unhex(s); ok || got != "" {
			t.Errorf("Unhex(%q): %q, %v", s, got, ok)
		}
	}
}
