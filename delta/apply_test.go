package delta_test

import (
	"slices"
	"testing"

	"eddy/api"
)

func TestApply(t *testing.T) {
	for _, x := range []struct{ s, d, want string }{
		{"1; a:[1]; b:[2]; c:[]", "4; b:[3]; d:[0]; -c", "4; a:[1]; b:[3]; d:[0]"},
		{"0", "9; a:[]", "9; a:[]"},
		{"0", "0", "0"},
		{"7", "3", "3"},
		{"7; a:[1]", "0", "0; a:[1]"},
		{"0; a:[1]", "1073741824", "1073741824; a:[1]"},
		{"1; a:[1]; b:[]", "2; -a; -b", "2"},
		{"1; a:[1]; b:[]; c:[3]", "2; -b", "2; a:[1]; c:[3]"},
		{"1; b:[1]; d:[2]", "1; a:[0]; b:[9, 9]; c:[0]; d:[]; e:[0]", "1; a:[0]; b:[9, 9]; c:[0]; d:[]; e:[0]"},
		{"1; b:[1]; d:[2]", "1; a:[0]", "1; a:[0]; b:[1]; d:[2]"},
		{"1; b:[1]; d:[2]", "1; c:[0]", "1; b:[1]; c:[0]; d:[2]"},
		{"1; b:[1]; d:[2]", "1; e:[0]", "1; b:[1]; d:[2]; e:[0]"},
		{"1; b:[1]; d:[2]", "1; a:[0]; e:[0]; -b; -d", "1; a:[0]; e:[0]"},
		{"1; b:[1]; d:[2]", "1; b:[1]", "1; b:[1]; d:[2]"},
		{"1; b:[1]; d:[2]", "1; c:[1]; -d", "1; b:[1]; c:[1]"},
		{"1; :[1]; b:[1]", "1; a:[]; -", "1; a:[]; b:[1]"},
		{"1; b:[1]", "1; :[2]; -b", "1; :[2]"},
		{"1; \x7f:[]; \xff:[]", "1; \x80:[]; -\x7f", "1; \x80:[]; \xff:[]"},
	} {
		applyOf(state(x.s), changes(x.d)).leadsTo(t, "P11.3", state(x.want))
	}
}

func TestKeysThatArentThere(t *testing.T) {
	for _, x := range []struct{ s, d string }{
		{"0", "4; b:[3]; d:[0]; -c"},
		{"0", "0; -"},
		{"0; a:[]; c:[]", "0; -"},
		{"0; a:[]; c:[]", "0; -b"},
		{"0; a:[]; c:[]", "0; -d"},
		{"0; a:[]; c:[]", "0; -a; -b; -c"},
		{"0; a:[]; c:[]", "0; b:[1]; -aa"},
		{"0; a:[]; c:[]", "0; -C"},
	} {
		applyOf(state(x.s), changes(x.d)).refuses(t, "P11.3", api.ErrDeltaGone)
	}
}

func TestHowManyCellsThereMayBe(t *testing.T) {
	full := api.State{Num: 1, Cells: celled(counted(100, 64), num(1))}
	fewer := api.State{Cells: full.Cells[:63]}
	for _, key := range []string{"a", "k100x", "z"} {
		more := api.Delta{Num: 2, Set: celled([]string{key})}
		all := slices.Insert(slices.Clone(fewer.Cells), keyPlace(fewer, key), more.Set[0])
		applyOf(fewer, more).leadsTo(t, "P11.3", api.State{Num: 2, Cells: all})
		applyOf(full, more).refuses(t, "P11.3", api.ErrDeltaCells)
	}
	applyOf(full, api.Delta{Set: celled(counted(100, 64), num(7))}).leadsTo(t, "P11.3", api.State{Cells: celled(counted(100, 64), num(7))})
	applyOf(full, api.Delta{Set: celled(counted(200, 64)), Gone: counted(100, 64)}).leadsTo(t, "P11.3", api.State{Cells: celled(counted(200, 64))})
	applyOf(full, api.Delta{Set: celled(counted(200, 64)), Gone: counted(100, 63)}).refuses(t, "P11.3", api.ErrDeltaCells)
	applyOf(full, api.Delta{Set: celled(counted(200, 64))}).refuses(t, "P11.3", api.ErrDeltaCells)
	room := api.State{Num: 5, Cells: slices.Concat(full.Cells[1:], celled([]string{"z"}))}
	applyOf(full, api.Delta{Num: 5, Set: celled([]string{"z"}), Gone: counted(100, 1)}).leadsTo(t, "P11.3", room)
	applyOf(full, api.Delta{Num: 5, Set: celled([]string{"y", "z"}), Gone: counted(100, 1)}).refuses(t, "P11.3", api.ErrDeltaCells)
	applyOf(api.State{}, api.Delta{Set: celled(counted(0, 64))}).leadsTo(t, "P11.3", api.State{Cells: celled(counted(0, 64))})
}

// keyPlace gives the place at which a key would stand among the cells.
func keyPlace(s api.State, key string) int {
	place, _ := slices.BinarySearch(keysOf(s.Cells), key)
	return place
}

// TestErrorsOfApplyInTheirOrder: each comes ahead of all that are behind it.
func TestErrorsOfApplyInTheirOrder(t *testing.T) {
	full := api.State{Cells: celled(counted(100, 64))}
	both := api.Delta{Set: celled([]string{"z"}), Gone: []string{"zz"}}
	for _, w := range wrongStates() {
		for _, d := range unfit() {
			applyOf(w.state, d).refuses(t, "P11.3", w.err)
		}
		applyOf(w.state, both).refuses(t, "P11.3", w.err)
		applyOf(w.state, api.Delta{}).refuses(t, "P11.3", w.err)
		applyOf(full, asDelta(w.state, "zz")).refuses(t, "P11.3", w.err)
	}
	for want, d := range unfit() {
		for _, s := range []api.State{{}, full, state("1; a:[]; b:[]; thirteenbyte:[]")} {
			applyOf(s, d).refuses(t, "P11.3", want)
		}
	}
	// What is missing, what there is no room for and what isn't fit, together.
	d := api.Delta{Set: celled([]string{"z"}), Gone: []string{"zz", "y"}}
	applyOf(full, d).refuses(t, "P11.3", api.ErrDeltaForm)
	applyOf(full, both).refuses(t, "P11.3", api.ErrDeltaGone)
	applyOf(full, api.Delta{Set: both.Set}).refuses(t, "P11.3", api.ErrDeltaCells)
}
