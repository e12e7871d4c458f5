package delta_test

import (
	"math"
	"slices"
	"strings"
	"testing"

	"eddy/api"
	"eddy/pen"
)

func TestFitDeltas(t *testing.T) {
	for _, d := range []api.Delta{
		{},
		{Set: []api.Cell{}, Gone: []string{}},
		changes("1; a:[1, 2]; b:[]; -c"),
		changes("1; b:[]; -a; -c"),
		changes("1; a:[]; d:[]; -b; -c"),
		changes("0; -"),
		changes("0; :[]; -a"),
		changes("0; a:[]; -; -b"),
		{Num: api.MaxNum, Set: celled(counted(0, 64), num(1)), Gone: counted(64, 64)},
		{Gone: counted(0, 64)},
		changes("0; twelve bytes:[]; -twelve byteT"),
	} {
		checkOf(d).isOK(t, "P11.1")
	}
}

// TestASetThatIsNoState: its error comes ahead of all that is wrong with Gone.
func TestASetThatIsNoState(t *testing.T) {
	for _, w := range wrongStates() {
		for _, gone := range [][]string{nil, {"c", "d"}, counted(0, 65), {"thirteenbytes"}, {"d", "c"}, {"c", "c"}, {"a", "b"}} {
			checkOf(asDelta(w.state, gone...)).refuses(t, "P11.1.1", w.err)
		}
	}
	for _, n := range []int{math.MinInt, -1, api.MaxNum + 1, math.MaxInt} {
		checkOf(api.Delta{Num: n, Gone: []string{"b", "a"}}).refuses(t, "P11.1.1", api.ErrValNum)
	}
}

// TestHowManyKeysGo: 65 of them come ahead of what is wrong with any one.
func TestHowManyKeysGo(t *testing.T) {
	for _, count := range []int{63, 64} {
		checkOf(api.Delta{Gone: counted(0, count)}).isOK(t, "P11.1.2")
	}
	for _, gone := range [][]string{
		counted(0, 65),
		counted(0, 1000),
		slices.Repeat([]string{"a"}, 65),
		append(counted(0, 64), "thirteenbytes"),
		append([]string{"thirteenbytes"}, counted(0, 64)...),
		append([]string{"s"}, counted(0, 64)...),
		make([]string, 1<<16),
	} {
		checkOf(api.Delta{Set: celled([]string{"s"}), Gone: gone}).refuses(t, "P11.1.2", api.ErrDeltaCells)
	}
}

func TestKeysThatGo(t *testing.T) {
	for _, x := range []struct {
		delta string
		want  api.Errno
	}{
		{"0; -twelve bytes", api.OK},
		{"0; -thirteenbytes", api.ErrValKey},
		{"0; -éééééé", api.OK},
		{"0; -éééééée", api.ErrValKey},
		{"0; -a; -thirteenbytes", api.ErrValKey},
		{"0; -a; -b; -c", api.OK},
		{"0; -a; -a", api.ErrDeltaForm},
		{"0; -b; -a", api.ErrDeltaForm},
		{"0; -a; -b; -b", api.ErrDeltaForm},
		{"0; -a; -c; -b", api.ErrDeltaForm},
		{"0; -aa; -a", api.ErrDeltaForm},
		{"0; -a; -aa; -b", api.OK},
		{"0; -b; -aa", api.ErrDeltaForm},
		{"0; -; -a", api.OK},
		{"0; -; -", api.ErrDeltaForm},
		{"0; -a; -", api.ErrDeltaForm},
		{"0; a:[]; -a", api.ErrDeltaForm},
		{"0; :[]; -", api.ErrDeltaForm},
		{"0; a:[]; b:[]; c:[]; -a", api.ErrDeltaForm},
		{"0; a:[]; b:[]; c:[]; -b", api.ErrDeltaForm},
		{"0; a:[]; b:[]; c:[]; -c", api.ErrDeltaForm},
		{"0; a:[]; b:[]; c:[]; -; -aa; -d; -e", api.OK},
		{"0; b:[]; -a; -b; -c", api.ErrDeltaForm},
		{"0; c:[]; -a; -b; -c", api.ErrDeltaForm},
	} {
		checkOf(changes(x.delta)).wants(t, "P11.1.3", answer{err: x.want})
	}
}

// TestTheFirstErrorOfTheKeys: of several keys the first that is wrong, of one key that is wrong in two ways the first error.
func TestTheFirstErrorOfTheKeys(t *testing.T) {
	for _, x := range []struct {
		delta string
		want  api.Errno
	}{
		{"0; -z; -thirteenbytes", api.ErrValKey},
		{"0; -thirteenbytes; -thirteenbytes", api.ErrValKey},
		{"0; s:[]; -s; -s", api.ErrDeltaForm},
		{"0; s:[]; -t; -s", api.ErrDeltaForm},
		{"0; -thirteenbytes; -a", api.ErrValKey},
		{"0; -b; -a; -thirteenbytes", api.ErrDeltaForm},
		{"0; -b; -b; -thirteenbytes", api.ErrDeltaForm},
		{"0; s:[]; -s; -thirteenbytes", api.ErrDeltaForm},
		{"0; s:[]; -a; -thirteenbytes; -s", api.ErrValKey},
		{"0; s:[]; -thirteenbytes; -s; -a", api.ErrValKey},
	} {
		checkOf(changes(x.delta)).refuses(t, "P11.1.3", x.want)
	}
}

// TestKeysAreBytes: they are compared as Go compares strings, not by runes, letters or lengths, and not as signed numbers.
func TestKeysAreBytes(t *testing.T) {
	rising := []string{"", "\x00", "\x00\x00", "\x01", "A", "B", "a", "a\x00", "aa", "a\x7f", "a\x80", "a\xff", "b", "\x7e", "\x7f", "\x7f\xff", "\x80", "\xc2\x80", "é", "\xef\xbf\xbd", "\xf0\x90\x80\x80", "\xff", "\xff\x00", "\xff\xff"}
	for low, a := range rising {
		for high, b := range rising {
			want := api.ErrDeltaForm
			if low < high {
				want = api.OK
			}
			checkOf(api.Delta{Gone: []string{a, b}}).wants(t, "P11.1.3", answer{err: want})
		}
	}
	for k, key := range rising {
		checkOf(api.Delta{Set: celled(rising), Gone: []string{key}}).refuses(t, "P11.1.3", api.ErrDeltaForm)
		others := slices.Delete(slices.Clone(rising), k, k+1)
		checkOf(api.Delta{Set: celled(others), Gone: []string{key}}).isOK(t, "P11.1.3")
		checkOf(api.Delta{Set: celled([]string{key}), Gone: others}).isOK(t, "P11.1.3")
	}
}

// TestAllShortDeltas: all Sets and Gones of a few pieces, right ones and wrong ones.
func TestAllShortDeltas(t *testing.T) {
	met := map[api.Errno]int{}
	for _, d := range shortDeltas() {
		want := checkOf(d).modelled()
		checkOf(d).wants(t, "P11.1", want)
		met[want.err]++
	}
	for _, e := range []api.Errno{api.OK, api.ErrValCells, api.ErrValKey, api.ErrDeltaForm} {
		if met[e] < 10 {
			t.Errorf("error %d is met %d times", e, met[e])
		}
	}
}

func shortDeltas() []api.Delta {
	var all []api.Delta
	for sets := range 3 {
		for set := range pen.Rows([]api.Cell{cell("a"), cell("b", num(1)), cell("b", num(2)), cell("")}, sets) {
			for gones := range 4 {
				for gone := range pen.Rows([]string{"", "a", "b", strings.Repeat("c", 13)}, gones) {
					all = append(all, api.Delta{Num: len(all) % 5, Set: slices.Clone(set), Gone: slices.Clone(gone)})
				}
			}
		}
	}
	return all
}
