package quote_test

import (
	"testing"

	"eddy/quote"
)

func TestSize(t *testing.T) {
	for s, want := range map[string]int{
		``: 0, `"`: 1, `""`: 2, `"""`: 2, `"a"`: 3, `"a" "b"`: 3, `"a`: 2, `"a;  `: 5,
		`"\"`: 3, `"\""`: 4, `"\\"`: 4, `"\\""`: 4, `"\\\"`: 5, `"\\\""`: 6, `"\\\\"x`: 6,
		`"a\b"c`: 5, `"\a"`: 4, `"\"\"" "`: 6, "\"\n\"": 3, "\"\xff\x00\"\"": 4,
	} {
		if got := quote.Size(s); got != want {
			t.Errorf("Size(%q) is %d, want %d", s, got, want)
		}
	}
}
