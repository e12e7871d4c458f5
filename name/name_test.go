package name_test

import (
	"strings"
	"testing"

	"eddy/name"
)

func TestFits(t *testing.T) {
	for _, s := range []string{"a", "z", "a0", "z9", "abcdefgh", "a1234567", "nop2qr"} {
		if !name.Fits(s) {
			t.Errorf("Fits(%q) is false", s)
		}
	}
	for _, s := range []string{"", "0", "9a", "abcdefghi", "a-b", " a", "a ", "A", "aB", "a_", "a.0", "\x00", "a\x00b", "é", "aé", "a\xff", strings.Repeat("a", 1<<20)} {
		if name.Fits(s) {
			t.Errorf("Fits(%q) is true", s)
		}
	}
}

// TestEveryByte: which bytes may stand first, and which behind.
func TestEveryByte(t *testing.T) {
	for c := range 256 {
		letter, digit := c >= 'a' && c <= 'z', c >= '0' && c <= '9'
		b := string([]byte{byte(c)})
		if got := name.Fits(b); got != letter {
			t.Errorf("Fits(%q) is %v", b, got)
		}
		for _, s := range []string{"a" + b, "a" + b + "a", "abcdefg" + b} {
			if got := name.Fits(s); got != (letter || digit) {
				t.Errorf("Fits(%q) is %v", s, got)
			}
		}
	}
}

func TestOfLog(t *testing.T) {
	for sink, want := range map[int]string{0: "out-00", 1: "out-01", 9: "out-09", 10: "out-10", 11: "out-11"} {
		if got := name.OfLog(sink); got != want {
			t.Errorf("OfLog(%d) is %q, want %q", sink, got, want)
		}
	}
}
