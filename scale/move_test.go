package scale_test

import (
	"math"
	"slices"
	"testing"

	"eddy/api"
	"eddy/equal"
	"eddy/fresh"
	"eddy/pen"
	"eddy/scale"
)

func TestMove(t *testing.T) {
	for _, x := range []struct {
		g       ground
		c, want string
	}{
		{sums(), "0 / 0 / 0 # / #", "0 / 0 / 0 / 0 / 0 / 0 # / / / / / #"},
		// Cells at a bound, and right ahead of it and behind it.
		{sums(), "2 / 0; f:[1]; g:[2]; h:[3] / 1 # a=1 / b=2 | c=3@1 # d=4", "2 / 0; f:[1] / 1 / 0 / 0; g:[2]; h:[3] / 0 # a=1 / b=2 | c=3@1 / / / / # d=4"},
		{sums().by("f"), "2 / 0; f:[1]; g:[2]; h:[3] / 0 # / #", "2 / 0 / 0 / 0 / 0; f:[1]; g:[2]; h:[3] / 0 # / / / / / #"},
		{sums().by("i"), "2 / 0; f:[1]; g:[2]; h:[3] / 0 # / #", "2 / 0; f:[1]; g:[2]; h:[3] / 0 / 0 / 0 / 0 # / / / / / #"},
		{sums().by("f\x00"), "0 / 0; f:[1]; g:[2] / 0 # / #", "0 / 0; f:[1] / 0 / 0 / 0; g:[2] / 0 # / / / / / #"},
		{sums().by(""), "0 / 0; :[1]; a:[none] / 0 # / #", "0 / 0 / 0 / 0 / 0; :[1]; a:[none] / 0 # / / / / / #"},
		{sums().by("", "a"), "0 / 0; :[1]; a:[none] / 0 # / #", "0 / 0 / 0 / 0 / 0; :[1] / 0; a:[none] / 0 # / / / / / / / #"},
		{sums().by("\x00"), "0 / 0; :[1]; a:[none] / 0 # / #", "0 / 0; :[1] / 0 / 0 / 0; a:[none] / 0 # / / / / / #"},
		{sums().by("b", "c", "d"), "5 / 0; a:[1]; b:[2]; bb:[3]; c:[4]; d:[5]; e:[6] / 0 # / #", "5 / 0; a:[1] / 0 / 0 / 0; b:[2]; bb:[3] / 0; c:[4] / 0; d:[5]; e:[6] / 0 # / / / / / / / / / #"},
		{sums().by("b", "c", "d"), "5 / 0; bb:[3] / 0 # / #", "5 / 0 / 0 / 0 / 0; bb:[3] / 0 / 0 / 0 # / / / / / / / / / #"},
		{pairs(), "1 / 0; a:[1]; g:[[2, 3]] / 3 # x=1 / y=2 # z=3", "1 / 0; a:[1] / 3 / 0 / 0; g:[[2, 3]] / 0 # x=1 / y=2 / / / / # z=3"},
		{firsts(), "1 / 0 / 0; a:[]; b:[]; n:[]; o:[] # / #", "1 / 0 / 0; a:[] / 0 / 0; b:[] / 0; n:[]; o:[] / 0 # / / / / / / / #"},
		// A loop's lanes, and other tasks' cells, stay as they are.
		{loop(), "2 / 0 / 0; a:[1]; m:[5] / 0 / 1 # a=1@1 / b=2 / c=3@2 / d=4 / e=5@0 # k=1", "2 / 0 / 0; a:[1] / 0 / 1 / 0 / 0; m:[5] / 0 # a=1@1 / b=2 / c=3@2 / d=4 / e=5@0 / / / / # k=1"},
		{fork(), "1 / 3 / 0 / 0; a:[]; z:[] / 0; a:[1]; m:[5]; z:[2] / 2 # f=1 / l=1 / d=1 / e=1 / k=1 # l=9 / k=8 | k=9",
			"1 / 3 / 0 / 0; a:[]; z:[] / 0; a:[1] / 2 / 0 / 0; m:[5] / 0; z:[2] / 0 # f=1 / l=1 / d=1 / e=1 / k=1 / / / / / / # l=9 / k=8 | k=9"},
		{fork().at(3).by("b"), "1 / 3 / 0 / 0; a:[]; z:[] / 0; a:[1]; m:[5]; z:[2] / 2 # f=1 / l=1 / d=1 / e=1 / k=1 # l=9 / k=8 | k=9",
			"1 / 3 / 0 / 0; a:[] / 0; a:[1]; m:[5]; z:[2] / 2 / 0 / 0; z:[] / 0 # f=1 / l=1 / d=1 / e=1 / k=1 / / / / # l=9 / k=8 | k=9"},
	} {
		c := configOf(x.c)
		// Sinks have as many records as their numbers say.
		sh := x.g.shape()
		for k, sink := range sh.Sinks {
			c.States[sink].Num = len(c.Outs[k])
		}
		want := configOf(x.want)
		for k, sink := range sh.Sinks {
			want.States[sink].Num = len(c.Outs[k])
		}
		x.g.wantMove(t, "P21.5", c, pen.TellConfig(want))
	}
}

// misfits gives configurations that aren't of the chapter's plan.
func misfits() []api.Config {
	all := []api.Config{{}}
	change := func(f func(c *api.Config)) {
		c := configOf("2 / 0; a:[1] / 1 # a=1 / b=2 # d=4")
		f(&c)
		all = append(all, c)
	}
	change(func(c *api.Config) { c.States = c.States[:2] })
	change(func(c *api.Config) { c.States = append(c.States, api.State{}) })
	change(func(c *api.Config) { c.Lanes = c.Lanes[:1] })
	change(func(c *api.Config) { c.Lanes = append(c.Lanes, nil) })
	change(func(c *api.Config) { c.Outs = nil })
	change(func(c *api.Config) { c.Outs = append(c.Outs, nil) })
	change(func(c *api.Config) { c.States[0].Num = 6 })
	change(func(c *api.Config) { c.States[0].Num = -1 })
	change(func(c *api.Config) { c.States[1].Num = 1 })
	change(func(c *api.Config) { c.States[1].Cells[0].Vals = nil })
	change(func(c *api.Config) { c.States[1].Cells = append(c.States[1].Cells, api.Cell{Key: "a"}) })
	change(func(c *api.Config) { c.States[2].Num = 2 })
	change(func(c *api.Config) { c.States[2].Num = math.MaxInt })
	change(func(c *api.Config) { c.States[0].Cells = c.States[1].Cells })
	change(func(c *api.Config) { c.Lanes[0][0].Key = "thirteen byte" })
	change(func(c *api.Config) { c.Lanes[1][0].Val.Kind = 7 })
	change(func(c *api.Config) { c.Outs[0][0].Loops = make([]int, 4) })
	return all
}

// misTapes gives tapes that the chapter's plan can't have.
func misTapes() [][][]api.Record {
	return [][][]api.Record{nil, make([][]api.Record, 5), {make([]api.Record, 65)}, pen.ReadLists("a=1@1"), {{{Key: "thirteen byte"}}}, {nil, {{Val: api.Value{Kind: 9}}}}}
}

// TestMoveErrors: each error ahead of the next, whatever stands behind it.
func TestMoveErrors(t *testing.T) {
	right := configOf("2 / 0; a:[1] / 1 # a=1 / b=2 # d=4")
	events := pen.ReadEvents("1.0 9.9")
	g := sums()
	configs := append(misfits(), right)
	for _, c := range configs {
		for _, tapes := range append(misTapes(), g.tapes) {
			for want, p := range refusedPlans() {
				x := ground{plan: p, tapes: tapes, task: 0}
				x.wantMove(t, "P21.5", c, want)
				x.wantFollow(t, "P21.6", c, events, want)
			}
			g.with(tapes).at(0).by().wantMove(t, "P21.5", c, "error 200")
			g.with(tapes).at(0).wantFollow(t, "P21.6", c, events, "error 200")
			g.with(tapes).by().wantMove(t, "P21.5", c, "error 201")
			g.with(tapes).by("z", "a").wantFollow(t, "P21.6", c, events, "error 201")
			ground{plan: great(10), tapes: tapes, task: 1, bounds: g.bounds}.wantMove(t, "P21.5", c, "error 70")
			ground{plan: great(10), tapes: tapes, task: 1, bounds: g.bounds}.wantFollow(t, "P21.6", c, events, "error 70")
		}
		for _, tapes := range misTapes() {
			g.with(tapes).wantMove(t, "P21.5", c, "error 90")
			g.with(tapes).wantFollow(t, "P21.6", c, events, "error 90")
		}
	}
	for _, c := range misfits() {
		g.wantMove(t, "P21.5", c, "error 93")
		g.wantFollow(t, "P21.6", c, nil, "error 93")
		g.wantFollow(t, "P21.6", c, events, "error 93")
	}
	g.wantMove(t, "P21.5", right, "2 / 0; a:[1] / 1 / 0 / 0 / 0 # a=1 / b=2 / / / / # d=4")
	g.wantFollow(t, "P21.6", right, nil, "")
	g.wantFollow(t, "P21.6", right, events, "error 91")
}

// TestMoveOfTheBeginning: P21.9's first part.
func TestMoveOfTheBeginning(t *testing.T) {
	for seed := range 300 {
		w := seeded(seed)
		g := w.ground()
		if seed < len(grounds()) {
			g = grounds()[seed]
		}
		m, e := scale.Move(g.plan, g.tapes, g.task, g.flow().Start(), g.bounds...)
		if wide := g.wide().flow(); e != api.OK || !wide.Same(m, wide.Start()) {
			t.Fatalf("P21.9: %v: Move of the initial configuration is %s, error %d", g, pen.TellConfig(m), int(e))
		}
	}
}

// TestDrawnMoves: drawn configurations, those that don't fit too, against the model; and P21.9.
func TestDrawnMoves(t *testing.T) {
	met := map[string]int{}
	for seed := range 1500 {
		w := seeded(seed)
		g := w.ground()
		c := w.config(g)
		if w.Below(8) == 0 {
			c.States[w.Below(len(c.States))].Num++
		}
		m, e := scale.Move(g.plan, g.tapes, g.task, c, g.bounds...)
		want, f := modelMove(g.plan, g.tapes, g.task, c, g.bounds...)
		if e != f || !equal.Config(m, want) {
			t.Fatalf("P21.5: seed %d: %v: Move of %s answers %s, %d, want %s, %d", seed, g, pen.TellConfig(c), pen.TellConfig(m), int(e), pen.TellConfig(want), int(f))
		}
		if met[errorTold(e)]++; e != api.OK {
			continue
		}
		if e := g.wide().flow().Fits(m); e != api.OK {
			t.Fatalf("P21.9: seed %d: %v: Move of %s is %s: error %d", seed, g, pen.TellConfig(c), pen.TellConfig(m), int(e))
		}
		// Each cell is in just one copy.
		n := len(g.plan.Tasks)
		left := fresh.State(c.States[g.task]).Cells
		filled := 0
		for k := range len(g.bounds) + 1 {
			task := n + k
			if k == 0 {
				task = g.task
			}
			if len(m.States[task].Cells) > 0 {
				filled++
			}
			for _, cell := range m.States[task].Cells {
				at := slices.IndexFunc(left, func(x api.Cell) bool {
					return equal.State(api.State{Cells: []api.Cell{x}}, api.State{Cells: []api.Cell{cell}})
				})
				if at < 0 {
					t.Fatalf("P21.9: seed %d: %v: the cell %v of copy %d isn't the task's, or is another copy's too", seed, g, cell, k)
				}
				left = slices.Delete(left, at, at+1)
			}
		}
		if len(left) > 0 {
			t.Fatalf("P21.9: seed %d: %v: the cells %v are gone", seed, g, left)
		}
		met[[]string{"no cells", "one copy", "two copies", "three copies", "four copies"}[filled]]++
	}
	wantCases(t, met, 100, "error 0", "error 93", "no cells", "one copy", "two copies")
	wantCases(t, met, 20, "three copies")
	wantCases(t, met, 3, "four copies")
}
