package delta_test

import (
	"testing"

	"eddy/api"
)

func TestDiff(t *testing.T) {
	for _, x := range []struct{ a, b, want string }{
		{"1; a:[1]; b:[2]; c:[]", "4; a:[1]; b:[3]; d:[0]", "4; b:[3]; d:[0]; -c"},
		{"0", "0", "0"},
		{"5", "5", "5"},
		{"5", "6", "6"},
		{"6", "0", "0"},
		{"5; a:[1]; b:[]", "5; a:[1]; b:[]", "5"},
		{"5; a:[1]; b:[]", "6; a:[1]; b:[]", "6"},
		{"0; a:[1]; b:[]", "1073741824", "1073741824; -a; -b"},
		{"7", "3; a:[1]; b:[]", "3; a:[1]; b:[]"},
		{"0; a:[1]", "0; a:[2]", "0; a:[2]"},
		{"0; a:[1]", "0; a:[1, 1]", "0; a:[1, 1]"},
		{"0; a:[1, 2]", "0; a:[1]", "0; a:[1]"},
		{"0; a:[1, 2]", "0; a:[2, 1]", "0; a:[2, 1]"},
		{"0; a:[1, 2, 3]", "0; a:[1, 2, 4]", "0; a:[1, 2, 4]"},
		{"0; a:[1]", "0; a:[]", "0; a:[]"},
		{"0; a:[]", "0; a:[none]", "0; a:[none]"},
		{"0; a:[none]", "0; a:[none, none]", "0; a:[none, none]"},
		{`0; a:[1]`, `0; a:["1"]`, `0; a:["1"]`},
		{"0; a:[[1]]", "0; a:[1]", "0; a:[1]"},
		{"0; a:[[]]", "0; a:[none]", "0; a:[none]"},
		{`0; a:[""]`, "0; a:[]", "0; a:[]"},
		{"0; a:[1]; b:[2]", "0; a:[2]; b:[1]", "0; a:[2]; b:[1]"},
		{"0; :[1]; x:[]", "0", "0; -; -x"},
		{"0", "1; :[1]", "1; :[1]"},
		{"0; a:[]; c:[]; e:[]", "0; b:[]; d:[]", "0; b:[]; d:[]; -a; -c; -e"},
		{"0; b:[]; d:[]", "0; a:[]; c:[]; e:[]", "0; a:[]; c:[]; e:[]; -b; -d"},
		{"0; a:[]; b:[]", "0; c:[]; d:[]", "0; c:[]; d:[]; -a; -b"},
		{"0; c:[]; d:[]", "0; a:[]; b:[]", "0; a:[]; b:[]; -c; -d"},
		{"0; a:[]; aa:[1]; b:[]", "0; a:[]; b:[]", "0; -aa"},
		{"0; \x7f:[]; \x80:[1]; \xff:[]", "0; \x7f:[]; \x80:[2]; \xff\x00:[]", "0; \x80:[2]; \xff\x00:[]; -\xff"},
	} {
		diffOf(state(x.a), state(x.b)).gives(t, "P11.2", changes(x.want))
	}
}

// TestTheSameWrittenOtherwise: lists of no values, nil and empty, in a cell and in a value however deep.
func TestTheSameWrittenOtherwise(t *testing.T) {
	no, empty := api.Value{Kind: api.List}, list([]api.Value{}...)
	spare := api.Value{Kind: api.List, Items: make([]api.Value, 0, 3)}
	ways := []api.State{}
	for _, v := range []api.Value{no, empty, spare} {
		for _, vals := range [][]api.Value{nil, {}, make([]api.Value, 0, 2)} {
			ways = append(ways, api.State{Num: 2, Cells: []api.Cell{cell("a", vals...), {Key: "b", Vals: vals}, cell("c", v, list(num(1), list(v)))}})
		}
	}
	for _, a := range ways {
		for _, b := range ways {
			diffOf(a, b).gives(t, "P11.2", changes("2"))
		}
		diffOf(a, state("2; a:[]; b:[]; c:[[], [1, [none]]]")).gives(t, "P11.2", changes("2; c:[[], [1, [none]]]"))
	}
}

func TestDiffOfManyCells(t *testing.T) {
	low, high := counted(0, 64), counted(64, 64)
	a, b := api.State{Num: 1, Cells: celled(low, num(1))}, api.State{Num: 2, Cells: celled(high)}
	diffOf(a, b).gives(t, "P11.2", api.Delta{Num: 2, Set: b.Cells, Gone: low})
	diffOf(b, a).gives(t, "P11.2", api.Delta{Num: 1, Set: a.Cells, Gone: high})
	diffOf(a, a).gives(t, "P11.2", api.Delta{Num: 1})
	other := api.State{Num: 3, Cells: celled(low, num(2))}
	diffOf(a, other).gives(t, "P11.2", api.Delta{Num: 3, Set: other.Cells})
	diffOf(a, api.State{}).gives(t, "P11.2", api.Delta{Gone: low})
	diffOf(api.State{}, a).gives(t, "P11.2", api.Delta{Num: 1, Set: a.Cells})
}

// TestDiffOfWrongStates: the first one's error, else the second one's, and nothing beside it.
func TestDiffOfWrongStates(t *testing.T) {
	right := state("3; a:[1]; z:[2]")
	for _, a := range wrongStates() {
		diffOf(a.state, right).refuses(t, "P11.2", a.err)
		diffOf(right, a.state).refuses(t, "P11.2", a.err)
		diffOf(a.state, a.state).refuses(t, "P11.2", a.err)
		for _, b := range wrongStates() {
			diffOf(a.state, b.state).refuses(t, "P11.2", a.err)
		}
	}
}
