package value

import (
	"math"
	"testing"

	"eddy/api"
)

// faulty gives values that aren't valid, of each fault.
func faulty() []api.Value {
	return []api.Value{
		{Kind: 4}, {Kind: -1}, {Int: 5}, {Text: "x"}, {Kind: 1, Int: 5, Text: "x"}, {Kind: 2, Text: "x", Int: 1}, {Kind: 3, Int: 1},
		text(long(25)), list(times(7, none)...), nested(3), list(num(1), api.Value{Kind: 4}), list(list(list(api.Value{Int: 1}))), list(num(1), list(text(long(25)))),
		list(list(times(6, none)...), list(times(4, none)...)),
	}
}

func TestOrderOfRisingValues(t *testing.T) {
	rising := []api.Value{
		none,
		num(math.MinInt64), num(math.MinInt64 + 1), num(-10), num(-9), num(-1), num(0), num(1), num(9), num(10), num(math.MaxInt64 - 1), num(math.MaxInt64),
		text(""), text("\x00"), text("\x00\x00"), text("\x00\xff"), text("0"), text("9"), text("A"), text("B"), text("a"), text("a\x00"), text("aa"), text("ab"), text("b"), text("\x7f"), text("\x80"), text("\u00e9"), text("\ufffd"), text("\xff"),
		list(), list(none), list(none, none), list(none, list()), list(num(-1)), list(num(1)), list(num(1), none), list(num(1), num(1)), list(num(1), num(1), none), list(num(1), num(2)), list(num(2)), list(num(10)), list(text("")), list(text("a"), none), list(text("aa")), list(list()), list(list(), list()), list(list(none)), list(list(none), none), list(list(num(1)), none), list(list(list())),
	}
	for i, a := range rising {
		for j, b := range rising {
			want := 0
			if i < j {
				want = -1
			}
			if i > j {
				want = 1
			}
			if got := Compare(a, clone(b)); got != want {
				t.Errorf("P2.5: Compare(%s, %s) = %d, want %d", Print(a), Print(b), got, want)
			}
		}
	}
}

func TestCompareTakesNilAndEmptyAsTheSame(t *testing.T) {
	empty := api.Value{Kind: api.List, Items: []api.Value{}}
	if got := Compare(list(), empty); got != 0 {
		t.Errorf("P2.5: Compare = %d", got)
	}
	if got := Compare(api.Value{Items: []api.Value{}}, none); got != 0 {
		t.Errorf("P2.5: Compare = %d", got)
	}
}

func TestWhatIsNotValidIsTakenAsNone(t *testing.T) {
	for k, v := range faulty() {
		if Check(v) == api.OK {
			t.Fatalf("value %d is valid", k)
		}
		if got := Print(v); got != "none" {
			t.Errorf("P2.4: Print of value %d = %s", k, got)
		}
		if got := Encode(v); len(got) != 1 || got[0] != 0 {
			t.Errorf("P2.4: Encode of value %d = % X", k, got)
		}
		for _, other := range faulty() {
			if got := Compare(v, other); got != 0 {
				t.Errorf("P2.4: Compare of value %d and another that isn't valid = %d", k, got)
			}
		}
		for _, other := range []api.Value{num(math.MinInt64), text(""), list()} {
			if got, back := Compare(v, other), Compare(other, v); got != -1 || back != 1 {
				t.Errorf("P2.4: Compare of value %d and %s = %d, %d the other way", k, Print(other), got, back)
			}
		}
		if got, back := Compare(v, none), Compare(none, v); got != 0 || back != 0 {
			t.Errorf("P2.4: Compare of value %d and none = %d, %d the other way", k, got, back)
		}
	}
}
