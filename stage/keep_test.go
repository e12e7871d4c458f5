package stage_test

import (
	"fmt"
	"slices"
	"testing"

	"eddy/api"
)

func TestAFoldsExample(t *testing.T) {
	of(t, api.Fold, 0, "0", "acc+val").runs(t, "P8.8", "0",
		move{0, "a=5", "0; a:[5]", "0 a=5"},
		move{0, "b=1", "0; a:[5]; b:[1]", "0 b=1"},
		move{0, "a=2@4", "0; a:[7]; b:[1]", "0 a=7@4"},
		move{0, `="x"`, "0; :[none]; a:[7]; b:[1]", "0 =none"},
		move{0, "a=none", "0; :[none]; a:[none]; b:[1]", "0 a=none"},
		move{0, "a=1", "0; :[none]; a:[none]; b:[1]", "0 a=none"})
}

// TestAFoldsExpressions: INIT is worked out without an acc, NEXT with the old value; both over the record.
func TestAFoldsExpressions(t *testing.T) {
	of(t, api.Fold, 0, "[val]", "acc+[val]").runs(t, "P8.8", "0",
		move{0, "a=1", "0; a:[[1, 1]]", "0 a=[1, 1]"},
		move{0, "a=2", "0; a:[[1, 1, 2]]", "0 a=[1, 1, 2]"})
	of(t, api.Fold, 0, "[acc, val, key, hops]", "[acc, val, key, hops]").runs(t, "P8.8", "0",
		move{0, "a=1@7", `0; a:[[[none, 1, "a", 7], 1, "a", 7]]`, `0 a=[[none, 1, "a", 7], 1, "a", 7]@7`},
		// Thirteen parts are no value.
		move{0, "a=2@1@2", "0; a:[none]", "0 a=none@1@2"},
		move{0, "a=4@1@2", `0; a:[[none, 4, "a", 2]]`, `0 a=[none, 4, "a", 2]@1@2`})
	// A cell that holds none is a cell: INIT isn't asked again.
	of(t, api.Fold, 0, "100", "if acc == none then 1 else none").runs(t, "P8.8", "0",
		move{0, "a=0", "0; a:[none]", "0 a=none"},
		move{0, "a=0", "0; a:[1]", "0 a=1"},
		move{0, "a=0", "0; a:[none]", "0 a=none"})
	of(t, api.Fold, 0, "acc", "key").runs(t, "P8.8", "0; b:[[1]]",
		move{0, "a=0@3@2", `0; a:["a"]; b:[[1]]`, `0 a="a"@3@2`},
		move{0, "b=0", `0; a:["a"]; b:["b"]`, `0 b="b"`})
}

func TestAJoinsExample(t *testing.T) {
	of(t, api.Join, 0).runs(t, "P8.12", "0",
		move{1, "a=1", "0; a:[2, 1]", ""},
		move{0, "a=none", "0; a:[3, none, 1]", "0 a=[none, 1]"},
		move{1, "a=4@1", "0; a:[3, none, 4]", "0 a=[none, 4]@1"},
		move{0, "b=9", "0; a:[3, none, 4]; b:[1, 9]", ""},
		move{0, "b=8@2", "0; a:[3, none, 4]; b:[1, 8]", ""},
		move{1, "b=7@5@6", "0; a:[3, none, 4]; b:[3, 8, 7]", "0 b=[8, 7]@5@6"},
		move{0, "a=[5]", "0; a:[3, [5], 4]; b:[3, 8, 7]", "0 a=[[5], 4]"})
}

// TestBothSidesInEveryOrder: all orders of up to six records of one key at the two ports. What a side keeps is its last value.
func TestBothSidesInEveryOrder(t *testing.T) {
	g := of(t, api.Join, 0)
	for length := 1; length <= 6; length++ {
		for order := range 1 << length {
			var s api.State
			var last [2]int
			for k := range length {
				port := order >> k & 1
				last[port] = k + 1
				r := rec(fmt.Sprintf("a=%d@%d", k+1, k))
				var want, out string
				switch {
				case last[1] == 0:
					want = fmt.Sprintf("0; a:[1, %d]", last[0])
				case last[0] == 0:
					want = fmt.Sprintf("0; a:[2, %d]", last[1])
				default:
					want = fmt.Sprintf("0; a:[3, %d, %d]", last[0], last[1])
					out = fmt.Sprintf("0 a=[%d, %d]@%d", last[0], last[1], k)
				}
				g.wants(t, "P8.12", s, port, r, state(want), sends(out))
				s, _, _ = g.Step(s, port, r)
			}
		}
	}
}

// TestNoneIsAValueOfASide: a side whose last value is none is there.
func TestNoneIsAValueOfASide(t *testing.T) {
	of(t, api.Join, 0).runs(t, "P8.12", "0",
		move{0, "a=none", "0; a:[1, none]", ""},
		move{0, "a=none", "0; a:[1, none]", ""},
		move{1, "a=none", "0; a:[3, none, none]", "0 a=[none, none]"},
		move{0, "a=2", "0; a:[3, 2, none]", "0 a=[2, none]"})
	of(t, api.Join, 0).runs(t, "P8.12", "0; a:[2, none]; b:[1, none]; c:[3, none, 3]",
		move{1, "b=none", "0; a:[2, none]; b:[3, none, none]; c:[3, none, 3]", "0 b=[none, none]"},
		move{1, "a=3", "0; a:[2, 3]; b:[3, none, none]; c:[3, none, 3]", ""},
		move{0, "c=2", "0; a:[2, 3]; b:[3, none, none]; c:[3, 2, 3]", "0 c=[2, 3]"})
}

func TestAWindowsExample(t *testing.T) {
	of(t, api.Window, 2).runs(t, "P8.13", "0",
		move{0, "a=1", "0; a:[1]", ""},
		move{0, "b=2", "0; a:[1]; b:[2]", ""},
		move{0, "a=3@7", "0; b:[2]", "0 a=[1, 3]@7"},
		move{0, "a=4", "0; a:[4]; b:[2]", ""})
	of(t, api.Window, 1).runs(t, "P8.13", "0", move{0, "a=1@2", "0", "0 a=[1]@2"}, move{0, "a=none", "0", "0 a=[none]"})
}

// TestWindowsOfEverySize: three rounds of two keys that take turns.
func TestWindowsOfEverySize(t *testing.T) {
	for size := 1; size <= api.MaxItems; size++ {
		g := of(t, api.Window, size)
		var s api.State
		held := map[string][]api.Value{}
		for n := range 3 * size {
			for _, key := range []string{"b", "a"} {
				r := api.Record{Key: key, Val: num(int64(n)), Loops: []int{n % 10}}
				held[key] = append(held[key], r.Val)
				var out []api.Send
				if len(held[key]) == size {
					out = []api.Send{{Rec: api.Record{Key: key, Val: list(held[key]...), Loops: r.Loops}}}
					held[key] = nil
				}
				var want api.State
				for _, other := range []string{"a", "b"} {
					if len(held[other]) > 0 {
						want.Cells = append(want.Cells, api.Cell{Key: other, Vals: slices.Clone(held[other])})
					}
				}
				g.wants(t, "P8.13", s, 0, r, want, out)
				s, _, _ = g.Step(s, 0, r)
			}
		}
	}
}

func TestADedupsExample(t *testing.T) {
	of(t, api.Dedup, 0).runs(t, "P8.14", "0",
		move{0, "b=1@3", "0; b:[]", "0 b=1@3"},
		move{0, "b=2", "0; b:[]", ""},
		move{0, "b=1@3", "0; b:[]", ""},
		move{0, "a=none", "0; a:[]; b:[]", "0 a=none"},
		move{0, "=[1]", "0; :[]; a:[]; b:[]", "0 =[1]"},
		move{0, "=[1]", "0; :[]; a:[]; b:[]", ""})
}

// TestListsThatArentValid: what join and window would send is too deep, or of too many parts; at the bound it is sent.
func TestListsThatArentValid(t *testing.T) {
	five, four := val("[1, 2, 3, 4, 5]"), val("[1, 2, 3, 4]")
	for _, c := range []struct {
		a, b api.Value
		fits bool
	}{
		{val("[[[]]]"), num(1), false}, {num(1), val("[[[]]]"), false}, {val("[[[1]]]"), val("[[[1]]]"), false},
		{val("[[]]"), num(1), true}, {num(1), val("[[]]"), true}, {val("[[1]]"), val("[[1]]"), true},
		{five, five, false}, {five, four, true}, {four, five, true}, {val("[[1, 2, 3, 4]]"), five, false}, {val("[[1, 2, 3]]"), five, true}, {five, val("[[1, 2, 3, 4]]"), false},
		{val("[1, 2, 3, 4, 5, 6]"), four, false}, {val("[1, 2, 3, 4, 5, 6]"), val("[1, 2, 3]"), true}, {val(`[[1, 2, 3, 4, 5, 6], [1, 2, 3]]`), none, false},
	} {
		sent := none
		if c.fits {
			sent = list(c.a, c.b)
		}
		out := []api.Send{{Rec: api.Record{Key: "a", Val: sent, Loops: []int{2}}}}
		left, right := api.Record{Key: "a", Val: c.a, Loops: []int{2}}, api.Record{Key: "a", Val: c.b, Loops: []int{2}}
		g := of(t, api.Join, 0)
		both := api.State{Cells: []api.Cell{{Key: "a", Vals: []api.Value{num(3), c.a, c.b}}}}
		g.wants(t, "P8.18", api.State{Cells: []api.Cell{{Key: "a", Vals: []api.Value{num(1), c.a}}}}, 1, right, both, out)
		g.wants(t, "P8.18", api.State{Cells: []api.Cell{{Key: "a", Vals: []api.Value{num(2), c.b}}}}, 0, left, both, out)
		g.wants(t, "P8.18", both, 1, right, both, out)
		g.wants(t, "P8.18", both, 0, left, both, out)
		of(t, api.Window, 2).wants(t, "P8.18", api.State{Cells: []api.Cell{{Key: "a", Vals: []api.Value{c.a}}}}, 0, right, api.State{}, out)
	}
	// A window of one that is too deep by itself.
	one := of(t, api.Window, 1)
	one.runs(t, "P8.18", "0", move{0, "a=[[[]]]@1", "0", "0 a=none@1"}, move{0, "a=[[]]", "0", "0 a=[[[]]]"})
	all := val("[[1, 2, 3, 4, 5, 6], 1, 2, 3, 4]")
	one.wants(t, "P8.18", api.State{}, 0, api.Record{Val: all}, api.State{}, []api.Send{{Rec: api.Record{}}})
	// A cell keeps values that no list could have together.
	six := of(t, api.Window, 6)
	var s api.State
	for n := range 5 {
		r := api.Record{Key: "w", Val: five}
		six.wants(t, "P8.18", s, 0, r, api.State{Cells: []api.Cell{{Key: "w", Vals: slices.Repeat([]api.Value{five}, n+1)}}}, nil)
		s, _, _ = six.Step(s, 0, r)
	}
	six.wants(t, "P8.18", s, 0, rec("w=1"), api.State{}, sends("0 w=none"))
}

// TestRoomForCells: with 63 and with 64 cells, of a key that has one and of one that has none, at the front, in the midst and at the end.
func TestRoomForCells(t *testing.T) {
	for _, g := range keepings(t) {
		for port := range g.picks() {
			full := api.State{Cells: cells(64, g.vals...)}
			for _, key := range []string{"", "a", "k00x", "k31\x00", "k63x", "zz"} {
				r := api.Record{Key: key, Val: num(5)}
				g.wants(t, "P8.18", full, port, r, full, nil)
				roomy := api.State{Cells: cells(63, g.vals...)}
				s, _, e := g.Step(roomy, port, r)
				at := slices.IndexFunc(s.Cells, func(c api.Cell) bool { return c.Key == key })
				if e != api.OK || len(s.Cells) != 64 || at < 0 {
					t.Errorf("P8.18: %v: with 63 cells a record of the new key %q leaves %d, error %d", g, key, len(s.Cells), e)
				} else if !same(slices.Delete(s.Cells, at, at+1), roomy.Cells) {
					t.Errorf("P8.18: %v: a record of the new key %q changes another cell", g, key)
				}
			}
			for k := range full.Cells {
				wantWorked(t, g, full, port, k)
				wantWorked(t, g, api.State{Cells: full.Cells[:63]}, port, min(k, 62))
			}
		}
	}
}

// wantWorked steps a record of the key of cell k: that cell alone is another one behind it.
func wantWorked(t *testing.T, g keeping, s api.State, port, k int) {
	t.Helper()
	r := api.Record{Key: s.Cells[k].Key, Val: num(5), Loops: []int{1}}
	want := api.State{Cells: slices.Clone(s.Cells)}
	var out []api.Send
	sent := func(v api.Value) { out = []api.Send{{Rec: api.Record{Key: r.Key, Val: v, Loops: []int{1}}}} }
	switch {
	case g.task.Kind == api.Fold:
		want.Cells[k].Vals = []api.Value{num(9)}
		sent(num(9))
	case g.task.Kind == api.Join && port == 0:
		want.Cells[k].Vals = []api.Value{num(3), num(5), num(4)}
		sent(list(num(5), num(4)))
	case g.task.Kind == api.Join:
		want.Cells[k].Vals = []api.Value{num(2), num(5)}
	case g.task.Num == 2:
		want.Cells = slices.Delete(want.Cells, k, k+1)
		sent(list(num(4), num(5)))
	case g.task.Num == 3:
		want.Cells[k].Vals = []api.Value{num(4), num(5)}
	}
	g.wants(t, "P8.18", s, port, r, want, out)
}

// TestAFullTaskGoesOn: once a window's cell is gone there is room again; the others stay full.
func TestAFullTaskGoesOn(t *testing.T) {
	g := of(t, api.Window, 2)
	full := api.State{Cells: cells(64, num(1))}
	s, out, _ := g.Step(full, 0, rec("k07=2"))
	if len(s.Cells) != 63 || !same(out, sends("0 k07=[1, 2]")) {
		t.Errorf("P8.13: a full window leaves %d cells and sends %s", len(s.Cells), tell(out))
	}
	s, out, _ = g.Step(s, 0, rec("a=3"))
	if len(s.Cells) != 64 || s.Cells[0].Key != "a" || len(out) != 0 {
		t.Errorf("P8.18: there is room for one cell again, and still %d cells stand there", len(s.Cells))
	}
	for _, g := range keepings(t) {
		if g.task.Kind == api.Window {
			continue
		}
		s := api.State{Cells: cells(64, g.vals...)}
		for n := range 5 {
			r := rec(fmt.Sprintf("new%d=1", n))
			g.wants(t, "P8.18", s, 0, r, s, nil)
		}
	}
}
