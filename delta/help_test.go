package delta_test

import (
	"fmt"
	"slices"
	"strconv"
	"strings"
	"testing"

	"eddy/api"
	"eddy/delta"
	"eddy/equal"
	"eddy/pen"
	"eddy/value"
)

// What is written by hand is read by the pen's readers: `4; b:[3]; d:[0]` is a state with two cells; a delta is written likewise, and `-c` in it is a key that is gone.
var (
	state   = pen.ReadState
	changes = pen.ReadDelta
)

func num(n int64) api.Value             { return api.Value{Kind: api.Int, Int: n} }
func text(s string) api.Value           { return api.Value{Kind: api.Text, Text: s} }
func list(items ...api.Value) api.Value { return api.Value{Kind: api.List, Items: items} }

func cell(key string, vals ...api.Value) api.Cell { return api.Cell{Key: key, Vals: vals} }

// counted gives so many keys that rise, from a number on.
func counted(from, count int) []string {
	var all []string
	for k := range count {
		all = append(all, fmt.Sprintf("k%03d", from+k))
	}
	return all
}

// celled gives a cell for each key, with the same values in each.
func celled(keys []string, vals ...api.Value) []api.Cell {
	var all []api.Cell
	for _, key := range keys {
		all = append(all, cell(key, vals...))
	}
	return all
}

func keysOf(cells []api.Cell) []string {
	var all []string
	for _, c := range cells {
		all = append(all, c.Key)
	}
	return all
}

// A call is one call of the package, with its arguments: Diff has two states, Apply a state and a delta, Join two deltas, Check one.
type call struct {
	what   string
	states []api.State
	deltas []api.Delta
}

func checkOf(d api.Delta) call   { return call{"Check", nil, []api.Delta{d}} }
func diffOf(a, b api.State) call { return call{"Diff", []api.State{a, b}, nil} }
func joinOf(d, e api.Delta) call { return call{"Join", nil, []api.Delta{d, e}} }
func applyOf(s api.State, d api.Delta) call {
	return call{"Apply", []api.State{s}, []api.Delta{d}}
}

// An answer is what a call answers; Check has an error alone.
type answer struct {
	state api.State
	delta api.Delta
	err   api.Errno
}

func (c call) made() answer {
	var a answer
	switch c.what {
	case "Check":
		a.err = delta.Check(c.deltas[0])
	case "Diff":
		a.delta, a.err = delta.Diff(c.states[0], c.states[1])
	case "Apply":
		a.state, a.err = delta.Apply(c.states[0], c.deltas[0])
	case "Join":
		a.delta, a.err = delta.Join(c.deltas[0], c.deltas[1])
	default:
		panic("no call: " + c.what)
	}
	return a
}

func (c call) String() string {
	var all []string
	for _, s := range c.states {
		all = append(all, tell(s.Num, s.Cells, nil))
	}
	for _, d := range c.deltas {
		all = append(all, tell(d.Num, d.Set, d.Gone))
	}
	return c.what + "(" + strings.Join(all, ", ") + ")"
}

func (a answer) String() string {
	return tell(a.state.Num, a.state.Cells, nil) + ", " + tell(a.delta.Num, a.delta.Set, a.delta.Gone) + ", error " + strconv.Itoa(int(a.err))
}

// tell writes a state or a delta as it is read here; what can't be read so is written whole.
func tell(n int, cells []api.Cell, gone []string) string {
	all := []string{strconv.Itoa(n)}
	for _, c := range cells {
		if v := list(c.Vals...); value.Check(v) == api.OK {
			all = append(all, fmt.Sprintf("%q:%s", c.Key, value.Print(v)))
		} else {
			all = append(all, fmt.Sprintf("%q:%#v", c.Key, c.Vals))
		}
	}
	for _, key := range gone {
		all = append(all, fmt.Sprintf("-%q", key))
	}
	return "`" + strings.Join(all, "; ") + "`"
}

func sameDelta(a, b api.Delta) bool {
	return equal.State(api.State{Num: a.Num, Cells: a.Set}, api.State{Num: b.Num, Cells: b.Set}) && slices.Equal(a.Gone, b.Gone)
}

// same tells whether two answers are the same field by field, nil and empty lists being so.
func same(a, b answer) bool {
	return a.err == b.err && equal.State(a.state, b.state) && sameDelta(a.delta, b.delta)
}

// wants fails the test where the call answers otherwise, or gives anything beside what it answers.
func (c call) wants(t *testing.T, promise string, want answer) {
	t.Helper()
	if got := c.made(); !same(got, want) {
		t.Errorf("%s: %v answers %v, want %v", promise, c, got, want)
	}
}

func (c call) gives(t *testing.T, promise string, want api.Delta) {
	t.Helper()
	c.wants(t, promise, answer{delta: want})
}

func (c call) leadsTo(t *testing.T, promise string, want api.State) {
	t.Helper()
	c.wants(t, promise, answer{state: want})
}

func (c call) isOK(t *testing.T, promise string) {
	t.Helper()
	c.wants(t, promise, answer{})
}

// refuses fails the test where the call answers another error, or anything beside it.
func (c call) refuses(t *testing.T, promise string, want api.Errno) {
	t.Helper()
	c.wants(t, promise, answer{err: want})
}

// A wrong state is one that isn't valid, with value.CheckState's error of it.
type wrong struct {
	state api.State
	err   api.Errno
}

func wrongStates() []wrong {
	of := func(v api.Value) api.State {
		return api.State{Num: 1, Cells: []api.Cell{cell("a", num(1)), cell("b", num(1), v)}}
	}
	return []wrong{
		{api.State{Num: -1}, api.ErrValNum},
		{api.State{Num: api.MaxNum + 1, Cells: celled([]string{"b", "a"})}, api.ErrValNum},
		{api.State{Cells: celled(counted(0, 65))}, api.ErrValCells},
		{api.State{Cells: celled([]string{"a", "thirteenbytes"})}, api.ErrValKey},
		{state("0; b:[]; a:[]"), api.ErrValCells},
		{state("0; a:[1]; a:[2]"), api.ErrValCells},
		{state("0; :[]; :[]"), api.ErrValCells},
		{api.State{Cells: []api.Cell{cell("a", make([]api.Value, 7)...)}}, api.ErrValCells},
		{of(api.Value{Kind: 4}), api.ErrValKind},
		{of(api.Value{Kind: api.Int, Text: "x"}), api.ErrValKind},
		{of(text(strings.Repeat("t", 25))), api.ErrValText},
		{of(list(make([]api.Value, 7)...)), api.ErrValItems},
		{of(list(list(num(1), num(1), num(1), num(1), num(1)), list(num(1), num(1), num(1), num(1), num(1)))), api.ErrValItems},
		{of(list(list(list(list())))), api.ErrValDepth},
	}
}

func asDelta(s api.State, gone ...string) api.Delta {
	return api.Delta{Num: s.Num, Set: s.Cells, Gone: gone}
}

// unfit gives deltas that aren't fit, each with Check's error of it.
func unfit() map[api.Errno]api.Delta {
	return map[api.Errno]api.Delta{
		api.ErrValNum:     changes("-1"),
		api.ErrValCells:   changes("1; b:[]; a:[]"),
		api.ErrValKind:    {Set: []api.Cell{cell("a", api.Value{Kind: 9})}},
		api.ErrDeltaCells: {Gone: counted(0, 65)},
		api.ErrValKey:     changes("1; -thirteenbytes"),
		api.ErrDeltaForm:  changes("1; -b; -a"),
	}
}

// TestHelp: what the tests write is what they mean.
func TestHelp(t *testing.T) {
	for _, w := range wrongStates() {
		if e := value.CheckState(w.state); e != w.err {
			t.Errorf("value.CheckState(%s) answers error %d, want %d", tell(w.state.Num, w.state.Cells, nil), e, w.err)
		}
	}
	got := []int{int(api.ErrDeltaGone), int(api.ErrDeltaCells), int(api.ErrDeltaForm), int(api.ErrValKey), api.MaxCells, api.MaxKey, api.MaxNum}
	for k, want := range []int{110, 111, 112, 24, 64, 12, 1 << 30} {
		if got[k] != want {
			t.Errorf("number %d is %d, want %d", k, got[k], want)
		}
	}
	a := answer{state("1; a:[2]"), changes("1; a:[2]; -b"), api.OK}
	for _, b := range []answer{
		{state("2; a:[2]"), a.delta, a.err}, {state("1; a:[3]"), a.delta, a.err}, {state("1; b:[2]"), a.delta, a.err}, {state("1"), a.delta, a.err},
		{a.state, changes("2; a:[2]; -b"), a.err}, {a.state, changes("1; a:[3]; -b"), a.err}, {a.state, changes("1; -b"), a.err}, {a.state, changes("1; a:[2]; -c"), a.err}, {a.state, changes("1; a:[2]"), a.err},
		{a.state, a.delta, api.ErrDeltaGone},
	} {
		if same(a, b) || same(b, a) || !same(b, b) {
			t.Errorf("%v and %v count as the same", a, b)
		}
	}
}
