package pen_test

import (
	"reflect"
	"testing"

	"eddy/api"
	"eddy/pen"
)

func TestRead(t *testing.T) {
	num := func(n int64) api.Value { return api.Value{Kind: api.Int, Int: n} }
	a, b := api.Record{Key: "a", Val: num(1)}, api.Record{Key: "b", Val: api.Value{Kind: api.List, Items: []api.Value{num(1), {}}}, Loops: []int{0, 3}}
	cells := api.State{Num: 7, Cells: []api.Cell{{Key: "a", Vals: []api.Value{num(5), {}}}, {Key: "b"}}}
	for k, x := range []struct{ got, want any }{
		{pen.ReadNumber("-3"), -3},
		{pen.ReadValue(`"x"`), api.Value{Kind: api.Text, Text: "x"}},
		{pen.ReadRecord("a=1"), a},
		{pen.ReadRecord("b=[1, none]@0@3"), b},
		{pen.ReadRecord("=none"), api.Record{}},
		{pen.ReadRecords("a=1 | b=[1, none]@0@3"), []api.Record{a, b}},
		{pen.ReadRecords(""), []api.Record(nil)},
		{pen.ReadLists("a=1 / / a=1 | a=1"), [][]api.Record{{a}, nil, {a, a}}},
		{pen.ReadLists(""), [][]api.Record{nil}},
		{pen.ReadState("7; a:[5, none]; b:[]"), cells},
		{pen.ReadDelta("7; a:[5, none]; b:[]; -; -c"), api.Delta{Num: 7, Set: cells.Cells, Gone: []string{"", "c"}}},
		{pen.ReadDelta("-2; -c"), api.Delta{Num: -2, Gone: []string{"c"}}},
		{pen.ReadDelta("0"), api.Delta{}},
		{pen.ReadConfig("0 / 7; a:[5, none]; b:[]", "a=1 /", ""), api.Config{States: []api.State{{}, cells}, Lanes: [][]api.Record{{a}, nil}, Outs: [][]api.Record{nil}}},
		{pen.ReadEvents("0.0 2.-1"), []api.Event{{}, {Task: 2, Port: -1}}},
		{pen.ReadPlan("s source 0", "k sink", "s.0 k.0"), api.Plan{Cap: 1, Tasks: []api.Task{{Name: "s", Kind: api.Source}, {Name: "k", Kind: api.Sink}}, Edges: []api.Edge{{To: 1}}}},
	} {
		if !reflect.DeepEqual(x.got, x.want) {
			t.Errorf("number %d is read as %+v, want %+v", k, x.got, x.want)
		}
	}
}

func TestWhatCantBeRead(t *testing.T) {
	for k, read := range []func(){
		func() { pen.ReadNumber("x") },
		func() { pen.ReadValue("[") },
		func() { pen.ReadRecord("a") },
		func() { pen.ReadRecord("a=1@x") },
		func() { pen.ReadState("a") },
		func() { pen.ReadDelta("a") },
		func() { pen.ReadDelta("1; a") },
		func() { pen.ReadEvents("1") },
		func() { pen.ReadPlan("s nothing") },
	} {
		func() {
			defer func() {
				if recover() == nil {
					t.Errorf("number %d is read", k)
				}
			}()
			read()
		}()
	}
}

// TestTell: what is told is read as the same thing.
func TestTell(t *testing.T) {
	for _, text := range []string{"a=1", "b=[1, none]@0@3", "=none", `c="x"@9`} {
		if got := pen.TellRecord(pen.ReadRecord(text)); got != text {
			t.Errorf("the record %q is told as %q", text, got)
		}
	}
	for _, text := range []string{"", "a=1", "a=1 | b=2@0 | a=1"} {
		if got := pen.TellRecords(pen.ReadRecords(text)); got != text {
			t.Errorf("the records %q are told as %q", text, got)
		}
	}
	for _, text := range []string{"", "a=1 / b=2 | c=3", " /  / a=1"} {
		if got := pen.TellLists(pen.ReadLists(text)); got != text {
			t.Errorf("the lists %q are told as %q", text, got)
		}
	}
	for _, text := range []string{"7", "0; a:[5, none]; b:[]; c:[[[[1]]]]"} {
		state := api.State{Cells: []api.Cell{{Key: "a", Vals: []api.Value{pen.ReadValue("5"), {}}}, {Key: "b"}, {Key: "c", Vals: []api.Value{pen.ReadValue("[[[1]]]")}}}}
		if text == "7" {
			state = pen.ReadState(text)
		}
		if got := pen.TellState(state); got != text {
			t.Errorf("the state %q is told as %q", text, got)
		}
	}
	if got, want := pen.TellConfig(pen.ReadConfig("1 / 0; a:[5]", "a=1 / b=2 | c=3", "d=4")), "1 / 0; a:[5] # a=1 / b=2 | c=3 # d=4"; got != want {
		t.Errorf("the configuration %q is told as %q", want, got)
	}
}
