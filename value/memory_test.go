package value

import (
	"bytes"
	"testing"

	"eddy/api"
)

// roomy gives v with lists that have spare room behind them, filled with a value of its own.
func roomy(v api.Value) api.Value {
	if v.Kind != api.List {
		return v
	}
	items := make([]api.Value, len(v.Items)+3)
	for k := range items {
		items[k] = text("spare")
	}
	for k, item := range v.Items {
		items[k] = roomy(item)
	}
	v.Items = items[:len(v.Items)]
	return v
}

// untouched tells whether v is still want, and its spare rooms still hold what roomy laid there.
func untouched(v, want api.Value) bool {
	if v.Kind != want.Kind || v.Int != want.Int || v.Text != want.Text || len(v.Items) != len(want.Items) {
		return false
	}
	if v.Kind != api.List {
		return true
	}
	for _, spare := range v.Items[len(v.Items):cap(v.Items)] {
		if !same(spare, text("spare")) {
			return false
		}
	}
	for k := range v.Items {
		if !untouched(v.Items[k], want.Items[k]) {
			return false
		}
	}
	return true
}

// scribble writes into all lists of v and into their spare room.
func scribble(v api.Value) {
	for _, item := range v.Items {
		scribble(item)
	}
	all := v.Items[:cap(v.Items)]
	for k := range all {
		all[k] = text("scribbled")
	}
}

func TestArgumentsStayAsTheyAre(t *testing.T) {
	for _, v := range append(someValues(), faulty()...) {
		arg, other := roomy(v), roomy(list(num(1), list(none)))
		Check(arg)
		CheckRecord(api.Record{Val: arg})
		Compare(arg, other)
		Compare(other, arg)
		Print(arg)
		Encode(arg)
		if !untouched(arg, v) || !untouched(other, list(num(1), list(none))) {
			t.Errorf("P2.13: a call changes %+v", v)
		}
	}
}

func TestRecordsAndStatesStayAsTheyAre(t *testing.T) {
	loops := []int{3, 2, 1, 77, 78}
	vals := roomy(list(num(1), list(none))).Items
	cells := []api.Cell{{Key: "a", Vals: vals}, {Key: "b"}, {Key: "spare"}}
	CheckRecord(api.Record{Key: "k", Loops: loops[:3]})
	CheckState(api.State{Cells: cells[:2]})
	CheckState(api.State{Num: -1, Cells: cells[:2]})
	for k, want := range []int{3, 2, 1, 77, 78} {
		if loops[k] != want {
			t.Errorf("P2.13: CheckRecord changes the loop counters to %v", loops)
		}
	}
	if cells[0].Key != "a" || cells[1].Key != "b" || cells[1].Vals != nil || cells[2].Key != "spare" || !untouched(list(vals...), list(num(1), list(none))) || len(cells[0].Vals) != 2 {
		t.Errorf("P2.13: CheckState changes the cells to %+v", cells)
	}
}

func TestDecodeLeavesAndDoesNotKeepItsBytes(t *testing.T) {
	for _, c := range knownBytes() {
		whole := append(append(bytes.Repeat([]byte{0xa5}, 8), c.b...), bytes.Repeat([]byte{0x5a}, 8)...)
		before := bytes.Clone(whole)
		v, _, _ := Decode(whole[8 : 8+len(c.b)])
		if !bytes.Equal(whole, before) {
			t.Errorf("P2.13: Decode changes the bytes of %s", Print(c.v))
		}
		for k := range whole {
			whole[k] ^= 0xff
		}
		if !same(v, c.v) {
			t.Errorf("P2.13: Decode keeps the bytes of %s", Print(c.v))
		}
	}
}

func TestBytesOfTwoAnswersShareNothing(t *testing.T) {
	for _, v := range someValues() {
		first, second := Encode(v), Encode(v)
		want := bytes.Clone(second)
		all := first[:cap(first)]
		for k := range all {
			all[k] ^= 0xff
		}
		if !bytes.Equal(second, want) || !bytes.Equal(Encode(v), want) {
			t.Errorf("P2.13: two answers of Encode(%s) share memory", Print(v))
		}
		spare := second[len(second):cap(second)]
		for k := range spare {
			if spare[k] == 0xff {
				t.Errorf("P2.13: two answers of Encode(%s) share spare room", Print(v))
			}
		}
	}
}

// readers gives, by name, each call that answers a value, on what is to give v.
func readers(v api.Value) map[string]func() api.Value {
	s, b := Print(v), Encode(v)
	return map[string]func() api.Value{
		"Parse":  func() api.Value { got, _, _ := Parse(s); return got },
		"Lead":   func() api.Value { got, _, _ := Lead(s); return got },
		"Decode": func() api.Value { got, _, _ := Decode(b); return got },
	}
}

func TestListsOfTwoAnswersShareNothing(t *testing.T) {
	for _, v := range someValues() {
		for name, call := range readers(v) {
			first, second := call(), call()
			scribble(first)
			if !same(second, v) || !same(call(), v) {
				t.Errorf("P2.13: two answers of %s, of %s, share memory", name, Print(v))
			}
		}
	}
}

// lists gives the lists of v, from the left.
func lists(v api.Value) [][]api.Value {
	var all [][]api.Value
	for _, p := range partsOf(v, 0) {
		if p.v.Kind == api.List {
			all = append(all, p.v.Items)
		}
	}
	return all
}

func TestListsOfOneAnswerShareNothing(t *testing.T) {
	mark := num(4711)
	for _, v := range someValues() {
		for name, call := range readers(v) {
			for k := range lists(v) {
				l := lists(call())
				spare := l[k][len(l[k]):cap(l[k])]
				for at := range spare {
					spare[at] = mark
				}
				for other := range l {
					for _, x := range l[other][:cap(l[other])] {
						if other != k && same(x, mark) {
							t.Errorf("P2.13: lists %d and %d of %s, of %s, share memory", k, other, name, Print(v))
						}
					}
				}
				if !same(list(l[0]...), v) {
					t.Errorf("P2.13: the spare room of list %d of %s is a part of %s", k, name, Print(v))
				}
			}
		}
	}
}

func TestFaultsAnswerZeros(t *testing.T) {
	for _, s := range []string{"[1, [2, 3], x", "[[1], 99999999999999999999]", "[[[1, [", "[1, \"" + long(25) + "\"]", "[1,2,3,4,5,6,7]"} {
		if v, _, e := Lead(s); e == api.OK || v.Items != nil || !same(v, none) {
			t.Errorf("P2.8: Lead(%s) = %+v, error %d", s, v, e)
		}
		if v, _, e := Parse(s); e == api.OK || v.Items != nil || !same(v, none) {
			t.Errorf("P2.9: Parse(%s) = %+v, error %d", s, v, e)
		}
	}
	if v, n, e := Parse("[1, 2] 3"); e != api.ErrValSyntax || n != 7 || v.Items != nil || !same(v, none) {
		t.Errorf("P2.9: Parse = %+v, %d, %d", v, n, e)
	}
	if v, n, e := Decode([]byte{3, 2, 1, 2, 4}); e != api.ErrValSyntax || n != 0 || v.Items != nil || !same(v, none) {
		t.Errorf("P2.11: Decode = %+v, %d, %d", v, n, e)
	}
}
