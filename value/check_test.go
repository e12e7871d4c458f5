package value

import (
	"math"
	"testing"

	"eddy/api"
)

func TestCheckTakesWhatIsValid(t *testing.T) {
	for k, v := range someValues() {
		if e := Check(v); e != api.OK {
			t.Errorf("P2.1: value %d, %+v: error %d", k, v, e)
		}
	}
	for _, v := range []api.Value{{Items: []api.Value{}}, {Kind: 1, Items: []api.Value{}}, {Kind: 2, Items: []api.Value{}}, {Kind: 3, Items: []api.Value{}}} {
		if e := Check(v); e != api.OK {
			t.Errorf("P2.1: an empty slice is nil's like: %+v: error %d", v, e)
		}
	}
}

func TestCheckTellsEachFault(t *testing.T) {
	one := times(1, none)
	twelve := list(list(times(4, none)...), list(times(5, none)...))
	for _, c := range []struct {
		why string
		v   api.Value
		e   api.Errno
	}{
		{"kind 4", api.Value{Kind: 4}, api.ErrValKind},
		{"kind -1", api.Value{Kind: -1}, api.ErrValKind},
		{"the least kind", api.Value{Kind: math.MinInt}, api.ErrValKind},
		{"the greatest kind", api.Value{Kind: math.MaxInt}, api.ErrValKind},
		{"kind 257", api.Value{Kind: 257}, api.ErrValKind},
		{"none with an int", api.Value{Int: 1}, api.ErrValKind},
		{"none with a text", api.Value{Text: "\x00"}, api.ErrValKind},
		{"none with items", api.Value{Items: one}, api.ErrValKind},
		{"an int with a text", api.Value{Kind: 1, Text: "a"}, api.ErrValKind},
		{"an int with items", api.Value{Kind: 1, Items: one}, api.ErrValKind},
		{"a text with an int", api.Value{Kind: 2, Int: -1}, api.ErrValKind},
		{"a text with items", api.Value{Kind: 2, Items: one}, api.ErrValKind},
		{"a list with an int", api.Value{Kind: 3, Int: 1}, api.ErrValKind},
		{"a list with a text", api.Value{Kind: 3, Text: "a"}, api.ErrValKind},
		{"a text of 24 bytes", text(long(24)), api.OK},
		{"a text of 25 bytes", text(long(25)), api.ErrValText},
		{"13 runes in 26 bytes", text("\u00e9\u00e9\u00e9\u00e9\u00e9\u00e9\u00e9\u00e9\u00e9\u00e9\u00e9\u00e9\u00e9"), api.ErrValText},
		{"6 items", list(times(6, none)...), api.OK},
		{"7 items", list(times(7, none)...), api.ErrValItems},
		{"12 parts", twelve, api.OK},
		{"13 parts", list(twelve.Items[0], twelve.Items[1], none), api.ErrValItems},
		{"13 parts, the last one in a list in a list", list(list(times(5, none)...), list(none, none, none, list(none))), api.ErrValItems},
		{"a list of depth 2", nested(2), api.OK},
		{"an int of depth 3", list(list(list(num(1)))), api.OK},
		{"a list of depth 3", nested(3), api.ErrValDepth},
		{"a list of depth 4", nested(4), api.ErrValDepth},
		{"a list of depth 3000", nested(3000), api.ErrValDepth},
	} {
		if e := Check(c.v); e != c.e {
			t.Errorf("P2.1: %s: error %d, want %d", c.why, e, c.e)
		}
	}
}

func TestCheckTellsTheFirstFault(t *testing.T) {
	wrong, longText, wide := api.Value{Kind: 9}, text(long(25)), list(times(7, none)...)
	eleven := []api.Value{list(times(4, none)...), list(times(4, none)...)}
	for _, c := range []struct {
		why string
		v   api.Value
		e   api.Errno
	}{
		{"the thirteenth part ahead of its kind", list(append(eleven, none, wrong)...), api.ErrValItems},
		{"the twelfth part's kind", list(append(eleven, wrong, none)...), api.ErrValKind},
		{"kind ahead of text", api.Value{Kind: 1, Text: long(25)}, api.ErrValKind},
		{"kind ahead of items", api.Value{Kind: 2, Items: times(7, none)}, api.ErrValKind},
		{"kind ahead of depth", list(list(list(api.Value{Kind: 3, Int: 1}))), api.ErrValKind},
		{"the thirteenth part ahead of depth", list(list(times(5, none)...), list(none, none, none, list(nested(0)))), api.ErrValItems},
		{"the twelfth part's depth", list(list(times(5, none)...), list(none, none, list(nested(0)))), api.ErrValDepth},
		{"depth ahead of items", list(list(list(wide))), api.ErrValDepth},
		{"depth ahead of an item's fault", list(list(list(list(wrong)))), api.ErrValDepth},
		{"items ahead of an item's fault", list(append([]api.Value{wrong}, times(6, none)...)...), api.ErrValItems},
		{"kind, then depth", list(wrong, nested(2)), api.ErrValKind},
		{"depth, then kind", list(nested(2), wrong), api.ErrValDepth},
		{"text, then kind", list(longText, wrong), api.ErrValText},
		{"kind, then text", list(wrong, longText), api.ErrValKind},
		{"items, then text", list(wide, longText), api.ErrValItems},
		{"a list's items ahead of what follows the list", list(list(none, longText), wrong), api.ErrValText},
		{"the thirteenth part, then kind", list(append(eleven, none, none, wrong)...), api.ErrValItems},
		{"seven items, more than twelve parts within", list(times(7, nested(1))...), api.ErrValItems},
	} {
		if e := Check(c.v); e != c.e {
			t.Errorf("P2.1: %s: error %d, want %d", c.why, e, c.e)
		}
	}
}

func TestCheckOfValuesByChance(t *testing.T) {
	c := chanceFrom(1)
	met := map[api.Errno]int{}
	for range 40000 {
		v := c.value(0)
		want := verdict(v)
		met[want]++
		if e := Check(v); e != want {
			t.Fatalf("P2.1: %+v: error %d, want %d", v, e, want)
		}
	}
	for _, e := range []api.Errno{api.OK, api.ErrValKind, api.ErrValText, api.ErrValItems, api.ErrValDepth} {
		if met[e] < 20 {
			t.Errorf("error %d was met %d times alone", e, met[e])
		}
	}
}

func TestCheckEndsSoonOnAWideValue(t *testing.T) {
	v := none
	for range 60 {
		v = list(v, v, v, v, v, v)
	}
	if e := Check(v); e != api.ErrValDepth {
		t.Errorf("P2.1: lists in lists, 60 deep: error %d", e)
	}
}

func TestCheckRecord(t *testing.T) {
	wrong := api.Value{Kind: 9}
	for k, c := range []struct {
		r api.Record
		e api.Errno
	}{
		{api.Record{}, api.OK},
		{api.Record{Loops: []int{}}, api.OK},
		{api.Record{Key: long(12), Val: list(none), Loops: []int{0, 9, 0}}, api.OK},
		{api.Record{Key: "\xff\x00", Val: text("x"), Loops: []int{1}}, api.OK},
		{api.Record{Key: long(13)}, api.ErrValKey},
		{api.Record{Key: long(13), Val: wrong, Loops: []int{10}}, api.ErrValKey},
		{api.Record{Key: "\u00e9\u00e9\u00e9\u00e9\u00e9\u00e9\u00e9"}, api.ErrValKey},
		{api.Record{Val: wrong}, api.ErrValKind},
		{api.Record{Val: wrong, Loops: []int{0, 0, 0, 0}}, api.ErrValKind},
		{api.Record{Val: text(long(25)), Loops: []int{-1}}, api.ErrValText},
		{api.Record{Val: list(times(7, none)...)}, api.ErrValItems},
		{api.Record{Val: nested(3)}, api.ErrValDepth},
		{api.Record{Loops: []int{0, 0, 0}}, api.OK},
		{api.Record{Loops: []int{0, 0, 0, 0}}, api.ErrValLoops},
		{api.Record{Loops: []int{-1}}, api.ErrValLoops},
		{api.Record{Loops: []int{10}}, api.ErrValLoops},
		{api.Record{Loops: []int{9, 9, 10}}, api.ErrValLoops},
		{api.Record{Loops: []int{0, math.MinInt}}, api.ErrValLoops},
		{api.Record{Loops: []int{math.MaxInt, 0}}, api.ErrValLoops},
	} {
		if e := CheckRecord(c.r); e != c.e {
			t.Errorf("P2.2: row %d, %+v: error %d, want %d", k, c.r, e, c.e)
		}
	}
}

// rising gives n cells with keys that rise.
func rising(n int) []api.Cell {
	var cells []api.Cell
	for k := range n {
		cells = append(cells, api.Cell{Key: string([]byte{byte(k / 10), byte(k)}), Vals: times(k%7, num(int64(k)))})
	}
	return cells
}

func TestCheckState(t *testing.T) {
	for k, s := range []api.State{
		{},
		{Cells: []api.Cell{}},
		{Num: 1 << 30, Cells: rising(64)},
		{Num: 1, Cells: []api.Cell{{}}},
		{Cells: []api.Cell{{Key: ""}, {Key: "\x00", Vals: []api.Value{}}, {Key: "\x00\x00"}, {Key: "A"}, {Key: "a"}, {Key: "a\x00"}, {Key: "ab"}, {Key: "b"}, {Key: "\x7f"}, {Key: "\x80"}, {Key: "\xff"}}},
		{Cells: []api.Cell{{Key: long(12), Vals: times(6, list(times(6, text(long(24)))...))}}},
	} {
		if e := CheckState(s); e != api.OK {
			t.Errorf("P2.3: state %d: error %d", k, e)
		}
	}
}

func TestCheckStateTellsTheFirstFault(t *testing.T) {
	wrong := api.Value{Kind: 9}
	falling := append(rising(63), api.Cell{Key: ""}, api.Cell{Key: "z"})
	for _, c := range []struct {
		why string
		s   api.State
		e   api.Errno
	}{
		{"number -1", api.State{Num: -1}, api.ErrValNum},
		{"the least number", api.State{Num: math.MinInt}, api.ErrValNum},
		{"one above MaxNum", api.State{Num: 1<<30 + 1}, api.ErrValNum},
		{"number ahead of cells", api.State{Num: -1, Cells: rising(65)}, api.ErrValNum},
		{"65 cells", api.State{Cells: rising(65)}, api.ErrValCells},
		{"65 cells ahead of a key", api.State{Cells: append([]api.Cell{{Key: long(13)}}, rising(64)...)}, api.ErrValCells},
		{"65 cells ahead of a value", api.State{Cells: append([]api.Cell{{Vals: []api.Value{wrong}}}, rising(64)...)}, api.ErrValCells},
		{"a key of 13 bytes", api.State{Cells: []api.Cell{{Key: long(13)}}}, api.ErrValKey},
		{"key ahead of order", api.State{Cells: []api.Cell{{Key: "b"}, {Key: long(13)}}}, api.ErrValKey},
		{"key ahead of number of values", api.State{Cells: []api.Cell{{Key: long(13), Vals: times(7, none)}}}, api.ErrValKey},
		{"key ahead of its values", api.State{Cells: []api.Cell{{Key: long(13), Vals: []api.Value{wrong}}}}, api.ErrValKey},
		{"the same key twice", api.State{Cells: []api.Cell{{Key: "a"}, {Key: "a"}}}, api.ErrValCells},
		{"the empty key twice", api.State{Cells: []api.Cell{{}, {}}}, api.ErrValCells},
		{"keys that fall", api.State{Cells: []api.Cell{{Key: "b"}, {Key: "a"}}}, api.ErrValCells},
		{"a key behind its longer one", api.State{Cells: []api.Cell{{Key: "ab"}, {Key: "a"}}}, api.ErrValCells},
		{"bytes without a sign", api.State{Cells: []api.Cell{{Key: "\x80"}, {Key: "\x7f"}}}, api.ErrValCells},
		{"the third below the second, above the first", api.State{Cells: []api.Cell{{Key: "a"}, {Key: "c"}, {Key: "b"}}}, api.ErrValCells},
		{"order of the 64th of 64", api.State{Cells: falling[:64]}, api.ErrValCells},
		{"order ahead of its values", api.State{Cells: []api.Cell{{Key: "b"}, {Key: "a", Vals: []api.Value{wrong}}}}, api.ErrValCells},
		{"a value ahead of the next cell's order", api.State{Cells: []api.Cell{{Key: "b", Vals: []api.Value{wrong}}, {Key: "a"}}}, api.ErrValKind},
		{"a value ahead of the next cell's key", api.State{Cells: []api.Cell{{Key: "b", Vals: []api.Value{text(long(25))}}, {Key: long(13)}}}, api.ErrValText},
		{"7 values", api.State{Cells: []api.Cell{{Vals: times(7, none)}}}, api.ErrValCells},
		{"7 values ahead of the first one", api.State{Cells: []api.Cell{{Vals: append([]api.Value{wrong}, times(6, none)...)}}}, api.ErrValCells},
		{"the first wrong value", api.State{Cells: []api.Cell{{Vals: []api.Value{none, nested(3), wrong}}}}, api.ErrValDepth},
		{"the first wrong value, the other way", api.State{Cells: []api.Cell{{Vals: []api.Value{none, wrong, nested(3)}}}}, api.ErrValKind},
		{"the last cell's last value", api.State{Cells: []api.Cell{{Key: "a"}, {Key: "b", Vals: append(times(5, none), list(times(7, none)...))}}}, api.ErrValItems},
		{"parts are counted anew in each value", api.State{Cells: []api.Cell{{Vals: times(6, list(times(6, none)...))}}}, api.OK},
	} {
		if e := CheckState(c.s); e != c.e {
			t.Errorf("P2.3: %s: error %d, want %d", c.why, e, c.e)
		}
	}
}
