package scale_test

import (
	"slices"
	"testing"

	"eddy/pen"
	"eddy/scale"
)

func wantPlace(t *testing.T, key string, bounds []string, want int) {
	t.Helper()
	if got := scale.Place(key, bounds...); got != want {
		t.Errorf("P21.1: Place(%q, %q) is %d, want %d", key, bounds, got, want)
	}
}

func TestPlace(t *testing.T) {
	for _, x := range []struct {
		key    string
		bounds []string
		want   int
	}{
		{"", nil, 0}, {"a", []string{}, 0}, {"", []string{""}, 1}, {"a", []string{""}, 1}, {"", []string{"", ""}, 2}, {"", []string{"\x00"}, 0},
		{"f", []string{"g"}, 0}, {"g", []string{"g"}, 1}, {"h", []string{"g"}, 1}, {"g\x00", []string{"g"}, 1}, {"g", []string{"g\x00"}, 0}, {"G", []string{"g"}, 0},
		{"\xff", []string{"z"}, 1}, {"z", []string{"\xff"}, 0}, {"\x7f", []string{"\x80"}, 0}, {"\x80", []string{"\x7f"}, 1}, {"é", []string{"z"}, 1}, {"\xff\xff", []string{"\xff", "é"}, 2},
		{"b", []string{"z", "a"}, 1}, {"z", []string{"z", "a"}, 2}, {"b", []string{"c", "b", "a"}, 2}, {"b", []string{"b", "b", "b"}, 3}, {"a", []string{"c", "b", "c"}, 0},
		{"twelve bytes and more", []string{"twelve bytes", "twelve bytes and", "twelve bytes and more", "twelve bytes and more."}, 3},
	} {
		wantPlace(t, x.key, x.bounds, x.want)
	}
}

// TestPlacesOfAllLists: all lists of at most four of some bounds, in any order.
func TestPlacesOfAllLists(t *testing.T) {
	texts := []string{"", "a", "b", "ba", "\xff", "\x00"}
	for count := range 5 {
		for bounds := range pen.Rows(texts, count) {
			for _, key := range append(texts, "c", "aa", "\xfe") {
				if got, want := scale.Place(key, bounds...), modelPlace(key, bounds...); got != want {
					t.Fatalf("P21.1: Place(%q, %q) is %d, want %d", key, bounds, got, want)
				}
			}
		}
	}
}

// TestPlacesOfManyBounds: far more than a plan has, of any bytes.
func TestPlacesOfManyBounds(t *testing.T) {
	for seed := range 200 {
		p := pen.Seeded(seed)
		text := func() string {
			b := make([]byte, p.Below(5))
			for k := range b {
				b[k] = byte(p.Below(256))
			}
			return string(b)
		}
		bounds := make([]string, p.Below(300))
		for k := range bounds {
			bounds[k] = text()
		}
		key := pen.One(p, text(), text(), append([]string{""}, bounds...)[p.Below(len(bounds)+1)])
		wantPlace(t, key, bounds, modelPlace(key, bounds...))
		slices.Sort(bounds)
		wantPlace(t, key, bounds, modelPlace(key, bounds...))
		slices.Reverse(bounds)
		wantPlace(t, key, bounds, modelPlace(key, bounds...))
	}
	wantPlace(t, "m", slices.Repeat([]string{"a", "z"}, 100000), 100000)
}
