package stage_test

import (
	"fmt"
	"slices"
	"testing"

	"eddy/api"
	"eddy/value"
)

// asModel fails the test where a step answers otherwise than the model, and gives what the step answered.
func (g tried) asModel(t *testing.T, s api.State, port int, r api.Record) (api.State, []api.Send, api.Errno) {
	t.Helper()
	gotS, gotOut, e := g.Step(s, port, r)
	wantS, wantOut, wantE := g.model().step(s, port, r)
	if e != wantE || !same(gotS, wantS) || !same(gotOut, wantOut) {
		t.Fatalf("P8.4 to P8.18: %v: Step(%s, %d, %s) answers %s, %s, error %d, want %s, %s, error %d", g, tell(s), port, tell(r), tell(gotS), tell(gotOut), e, tell(wantS), tell(wantOut), wantE)
	}
	return gotS, gotOut, e
}

// TestDrawnSteps: steps in states and with records of every sort are as the model says.
func TestDrawnSteps(t *testing.T) {
	errors := map[api.Errno]int{}
	for seed := range 6000 {
		d := seeded(seed)
		g := d.stage(t)
		for range 6 {
			s, r, port := d.legal(g), d.record(), d.Intn(g.picks())
			if d.Intn(4) == 0 {
				s = d.spoilt(s)
			}
			if d.Intn(8) == 0 {
				r = d.spoiltRecord()
			}
			if d.Intn(12) == 0 {
				port = pick(d, -1, g.picks())
			}
			if e, want := g.Legal(s), g.model().legal(s); e != want {
				t.Fatalf("P8.3: %v: Legal(%s) answers error %d, want %d", g, tell(s), e, want)
			}
			_, _, e := g.asModel(t, s, port, r)
			errors[e]++
		}
	}
	for _, e := range []api.Errno{api.OK, api.ErrStageState, api.ErrStagePort, api.ErrStageFull, api.ErrValKind, api.ErrValText, api.ErrValItems, api.ErrValDepth, api.ErrValKey, api.ErrValLoops, api.ErrValNum, api.ErrValCells} {
		if errors[e] < 10 {
			t.Errorf("of the drawn steps only %d answer error %d", errors[e], e)
		}
	}
}

// wantSound is what P8.19 says of a step that was OK.
func (g tried) wantSound(t *testing.T, s api.State, out []api.Send) {
	t.Helper()
	if e := g.Legal(s); e != api.OK {
		t.Fatalf("P8.19: %v: a run leads to the state %s, of which Legal answers error %d", g, tell(s), e)
	}
	for k, x := range out {
		if e := value.CheckRecord(x.Rec); e != api.OK {
			t.Fatalf("P8.19: %v: a run sends %s: error %d", g, tell(x.Rec), e)
		}
		if x.Out < 0 || x.Out >= g.outs || k > 0 && x.Out <= out[k-1].Out {
			t.Fatalf("P8.19: %v: a run sends at the ports of %s", g, tell(out))
		}
	}
}

// TestDrawnRuns: from the empty state on every step is OK, every state legal, all that goes out valid; and each step is as the model says.
func TestDrawnRuns(t *testing.T) {
	full := 0
	for seed := range 900 {
		d := seeded(seed)
		g := d.stage(t)
		var s api.State
		for range pick(d, 10, 40, 200) {
			next, out, e := g.asModel(t, s, d.Intn(g.picks()), d.record())
			if e != api.OK {
				t.Fatalf("P8.19: %v: a run ends with error %d", g, e)
			}
			g.wantSound(t, next, out)
			s = next
		}
		if len(s.Cells) == api.MaxCells {
			full++
		}
	}
	if full < 10 {
		t.Errorf("only %d drawn runs come to the greatest number of cells", full)
	}
}

// TestAllShortRuns: every run of up to four records out of two keys and three values, at every port.
func TestAllShortRuns(t *testing.T) {
	var stages []tried
	for _, k := range []api.Task{
		task(api.Source, 0), task(api.Map, 0, "val", "[key,val]"), task(api.Filter, 0, "val"), task(api.Fold, 0, "0", "acc+val"), task(api.Fold, 0, "[]", "[acc,val]"),
		task(api.Join, 0), task(api.Window, 1), task(api.Window, 2), task(api.Window, 3), task(api.Dedup, 0), task(api.Head, 0), task(api.Tail, 1, "val"), task(api.Sink, 0),
	} {
		stages = append(stages, of(t, k.Kind, k.Num, k.Exprs...))
	}
	stages = append(stages, made(t, task(api.Union, 0), 2, 1), made(t, task(api.Split, 0, "val"), 1, 2), made(t, task(api.Tee, 0), 1, 2))
	for _, g := range stages {
		g.shortRuns(t, api.State{}, 4)
	}
}

func (g tried) shortRuns(t *testing.T, s api.State, left int) {
	t.Helper()
	if left == 0 {
		return
	}
	for port := range g.picks() {
		for _, in := range []string{"a=1", "a=[[[]]]@0", "b=none@1@2@1", "b=1"} {
			next, out, _ := g.asModel(t, s, port, rec(in))
			g.wantSound(t, next, out)
			g.shortRuns(t, next, left-1)
		}
	}
}

// TestUnlikeKeysCanBeExchanged: two steps of unlike keys, in a state that has room for both.
func TestUnlikeKeysCanBeExchanged(t *testing.T) {
	for seed := range 6000 {
		d := seeded(seed)
		g := d.keeper(t)
		s := d.legal(g)
		s.Cells = s.Cells[:min(len(s.Cells), api.MaxCells-2)]
		a, b := d.record(), d.record()
		if a.Key == b.Key {
			b.Key += "x"
			b.Key = b.Key[max(len(b.Key), api.MaxKey)-api.MaxKey:]
		}
		portA, portB := d.Intn(g.picks()), d.Intn(g.picks())
		s1, outA1, _ := g.Step(s, portA, a)
		s1, outB1, e1 := g.Step(s1, portB, b)
		s2, outB2, _ := g.Step(s, portB, b)
		s2, outA2, e2 := g.Step(s2, portA, a)
		if e1 != api.OK || e2 != api.OK || !same(s1, s2) || !same(outA1, outA2) || !same(outB1, outB2) {
			t.Fatalf("P8.20: %v: from %s, %s at %d and %s at %d: in one order %s, %s, %s, in the other %s, %s, %s", g, tell(s), tell(a), portA, tell(b), portB, tell(s1), tell(outA1), tell(outB1), tell(s2), tell(outA2), tell(outB2))
		}
	}
}

// A fed record is one that comes in at a port.
type fed struct {
	port int
	r    api.Record
}

// sentFor plays a run and gives by key what was sent, and the cells that stand at its end.
func (g tried) sentFor(t *testing.T, run []fed) (map[string][]api.Send, api.State) {
	t.Helper()
	all := map[string][]api.Send{}
	var s api.State
	for _, f := range run {
		next, out, e := g.Step(s, f.port, f.r)
		if e != api.OK {
			t.Fatalf("P8.19: %v: a run ends with error %d", g, e)
		}
		all[f.r.Key] = append(all[f.r.Key], out...)
		s = next
	}
	return all, s
}

// TestAKeysRecordsAlone: what is sent for a key in a run among others, and its cell, is what its records alone give.
func TestAKeysRecordsAlone(t *testing.T) {
	for seed := range 300 {
		d := seeded(seed)
		d.keys = 2 + d.Intn(8)
		g := d.keeper(t)
		var run []fed
		for range 60 {
			run = append(run, fed{d.Intn(g.picks()), d.record()})
		}
		among, s := g.sentFor(t, run)
		for key := range among {
			own := slices.DeleteFunc(slices.Clone(run), func(f fed) bool { return f.r.Key != key })
			alone, left := g.sentFor(t, own)
			if !same(alone[key], among[key]) {
				t.Fatalf("P8.20: %v: for the key %q among others %s is sent, alone %s", g, key, tell(among[key]), tell(alone[key]))
			}
			cell := slices.DeleteFunc(slices.Clone(s.Cells), func(c api.Cell) bool { return c.Key != key })
			if !same(cell, left.Cells) {
				t.Fatalf("P8.20: %v: the cell of %q among others is %s, alone %s", g, key, shown(cell), shown(left.Cells))
			}
		}
	}
}

// TestShuffledKeys: a run in which each key's records keep their order leads to one state, however the keys take turns.
func TestShuffledKeys(t *testing.T) {
	for seed := range 300 {
		d := seeded(seed)
		d.keys = 2 + d.Intn(8)
		g := d.keeper(t)
		byKey := map[string][]fed{}
		var first []fed
		for range 40 {
			f := fed{d.Intn(g.picks()), d.record()}
			first = append(first, f)
			byKey[f.r.Key] = append(byKey[f.r.Key], f)
		}
		second := slices.Clone(first)
		d.Shuffle(len(second), func(a, b int) { second[a], second[b] = second[b], second[a] })
		for k, f := range second {
			second[k], byKey[f.r.Key] = byKey[f.r.Key][0], byKey[f.r.Key][1:]
		}
		sentA, a := g.sentFor(t, first)
		sentB, b := g.sentFor(t, second)
		if !same(a, b) || fmt.Sprint(sentA) != fmt.Sprint(sentB) {
			t.Fatalf("P8.20: %v: two orders of a run lead to %s and %s", g, tell(a), tell(b))
		}
	}
}
