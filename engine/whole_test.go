package engine_test

import (
	"fmt"
	"slices"
	"strings"
	"testing"

	"eddy/api"
	"eddy/equal"
	"eddy/flow"
	"eddy/pen"
)

// TestWhole: what P20.1, P20.2, P20.3 and P20.7 say, of drawn plans, tapes and scripts in all modes, with falls at any step and any byte and calls that fail.
func TestWhole(t *testing.T) {
	met := map[string]int{}
	for seed := range 180 {
		for mode := 1; mode <= 3; mode++ {
			d := seeded(seed)
			if d.Calls = 30; seed%3 == 0 {
				d.Calls = 200
			}
			g := d.ground().in(mode)
			w := g.watch(g.open(t), met)
			w.plays(t, d.at(g), 350)
		}
	}
	for mode := 1; mode <= 3; mode++ {
		for _, one := range []string{"a cut, events on both sides: true", "a life at a shot: true, did 12", "ready, rigged: false, small: true, did 9",
			"ready, rigged: true, small: true, did 9", "ready, rigged: true, small: true, did 10", "ready, rigged: true, small: true, did 11"} {
			wantCases(t, met, 50, fmt.Sprint("mode ", mode, ": ", one))
		}
		for _, one := range []string{"comes up at one that wasn't told complete: true", "a life at a shot: true, did 11"} {
			wantCases(t, met, 10, fmt.Sprint("mode ", mode, ": ", one))
		}
	}
}

// plays lets the engine do so many drawn steps.
func (w *watch) plays(t *testing.T, d *writer, steps int) {
	t.Helper()
	for n := range steps {
		_, why := w.does(d.Step(w.e.Status()))
		if why == "" && n%50 == 49 {
			why = w.lineFault()
		}
		if why != "" {
			t.Fatalf("%v: %s", w, why)
		}
	}
}

// step lets the engine do one step that must be well.
func (w *watch) step(t *testing.T, op api.Op) int {
	t.Helper()
	did, why := w.does(op)
	if why != "" {
		t.Fatalf("%v: %s", w, why)
	}
	return did
}

// stands lets the machine come up, if it is down, till it is up without a rig.
func (w *watch) stands(t *testing.T) {
	t.Helper()
	if w.e.Status().Up {
		w.step(t, api.Op{Kind: api.OpCrash})
	}
	w.step(t, api.Op{Kind: api.OpRecover, Keep: []int{9999}})
}

// round lets the engine do a fair round, and tells whether something has moved, and whether a snapshot got ready.
func (w *watch) round(t *testing.T, ops []api.Op) (moved, ready bool) {
	t.Helper()
	for _, op := range ops {
		switch w.step(t, op) {
		case api.DidEmpty, api.DidBlock, api.DidHeld:
		case api.DidComplete, api.DidAbort, api.DidDown:
			return true, true
		default:
			moved = true
		}
	}
	return moved, false
}

// restFault tells what of P20.4 (a) isn't so.
func (w *watch) restFault() string {
	if id := w.e.Status().Under; id != 0 {
		return fmt.Sprint("snapshot ", id, " is under way")
	}
	for task, s := range w.e.Config().States {
		if p := w.plan.Tasks[task]; p.Kind == api.Source && s.Num != len(w.tapes[p.Num]) {
			return fmt.Sprint("source ", task, " has read ", s.Num, " of ", len(w.tapes[p.Num]), " records")
		}
	}
	for edge, l := range w.e.Config().Lanes {
		if len(l) > 0 {
			return fmt.Sprint("the lane of edge ", edge, " holds ", pen.TellRecords(l))
		}
	}
	return ""
}

// rests lets the engine do fair rounds till nothing moves; false, if it doesn't come to that.
func (w *watch) rests(t *testing.T, d *writer) bool {
	t.Helper()
	for range 150 {
		if moved, _ := w.round(t, d.Round()); !moved {
			if why := w.restFault(); why != "" {
				t.Fatalf("P20.4 (a): %v: nothing moves, and %s", w, why)
			}
			return true
		}
	}
	return false
}

// TestRest: a fair round in which nothing moves leaves nothing to be done; in any order, behind falls and failed calls, with rigs that are set and without.
func TestRest(t *testing.T) {
	met := map[string]int{}
	for seed := range 150 {
		for mode := 1; mode <= 3; mode++ {
			d := seeded(1000 + seed)
			g := d.ground().in(mode)
			w := g.watch(g.open(t), map[string]int{})
			w.plays(t, d.at(g), pen.One(d.Pen, 0, 20, 100, 200))
			if !w.e.Status().Up {
				w.stands(t)
			}
			under := w.e.Status().Under != 0
			if w.rests(t, d) {
				met[fmt.Sprint("mode ", mode, ", at rest, one was under way: ", under)]++
			}
		}
	}
	for mode := 1; mode <= 3; mode++ {
		wantCases(t, met, 20, fmt.Sprint("mode ", mode, ", at rest, one was under way: true"), fmt.Sprint("mode ", mode, ", at rest, one was under way: false"))
	}
}

// readyIn tells in which of so many fair rounds, one directly behind the other, the snapshot under way gets ready; 0: in none of them. The rounds are all of one kind, or any.
func (w *watch) readyIn(t *testing.T, d *writer, most int) int {
	t.Helper()
	for n := range most {
		if _, ready := w.round(t, d.Round()); ready {
			return n + 1
		}
	}
	return 0
}

// begins brings a machine that stands to where no snapshot is under way, gives up so many, and triggers one.
func (w *watch) begins(t *testing.T, d *writer, aborts int) {
	t.Helper()
	for range aborts {
		w.step(t, api.Op{Kind: api.OpTrigger})
		for range d.Below(6) {
			w.step(t, d.Picks[d.Below(len(d.Picks))])
		}
		w.step(t, api.Op{Kind: api.OpAbort})
	}
	if w.e.Status().Under == 0 {
		w.step(t, api.Op{Kind: api.OpTrigger})
		return
	}
	w.step(t, api.Op{Kind: api.OpAbort})
	w.step(t, api.Op{Kind: api.OpTrigger})
}

// TestReadyInTimeOvertaking: P20.4 (b), whatever the lanes hold and however many were given up.
func TestReadyInTimeOvertaking(t *testing.T) {
	met := map[string]int{}
	for seed := range 250 {
		d := seeded(2000 + seed)
		g := d.ground().in(api.Overtaking)
		w := g.watch(g.open(t), map[string]int{})
		w.plays(t, d.at(g), pen.One(d.Pen, 0, 30, 150))
		if !w.e.Status().Up {
			w.stands(t)
		}
		w.begins(t, d, pen.One(d.Pen, 0, 0, 1, 4))
		for range d.Below(40) {
			w.step(t, d.Picks[d.Below(len(d.Picks))])
		}
		records := 0
		for _, l := range w.e.Config().Lanes {
			records += len(l)
		}
		aborts := w.e.Status().Aborts
		if most := 2*len(w.plan.Tasks) + aborts + 1; w.readyIn(t, d, most) == 0 {
			t.Fatalf("P20.4 (b): %v: it isn't ready behind %d fair rounds, with %d given up before", w, most, aborts)
		}
		met[fmt.Sprint("records in lanes: ", records > 0)]++
		met[fmt.Sprint("given up before: ", aborts > 0)]++
	}
	wantCases(t, met, 50, "records in lanes: true", "records in lanes: false", "given up before: true", "given up before: false")
}

// simple draws the ground of a plan without tee and with at most one tail.
func (w *writer) simple() ground {
	for {
		p := w.Plan()
		tails := 0
		for _, task := range p.Tasks {
			switch task.Kind {
			case api.Tail:
				tails++
			case api.Tee:
				tails = 2
			}
		}
		if tails < 2 {
			p.Cap = pen.One(w.Pen, 1, 1, 2, api.MaxCap)
			return w.groundOf(p)
		}
	}
}

// slowest gives the most rounds that P20.4 (c) allows.
func (w *watch) slowest() int {
	records, n, bound := 0, len(w.plan.Tasks), 0
	for _, task := range w.plan.Tasks {
		switch task.Kind {
		case api.Source:
			records += len(w.tapes[task.Num])
		case api.Tail:
			bound = task.Num
		}
	}
	return records*n*(bound+2) + (w.e.Status().Aborts+1)*(len(w.plan.Edges)+n) + n + 1
}

// TestReadyInTime: P20.4 (c), in all modes.
func TestReadyInTime(t *testing.T) {
	met := map[string]int{}
	for seed := range 150 {
		for mode := 1; mode <= 3; mode++ {
			d := seeded(3000 + seed)
			g := d.simple().in(mode)
			if strings.Count(g.text, " tee") > 0 || strings.Count(g.text, " tail ") > 1 {
				continue
			}
			w := g.watch(g.open(t), map[string]int{})
			w.plays(t, d.at(g), pen.One(d.Pen, 0, 30, 100))
			if !w.e.Status().Up {
				w.stands(t)
			}
			w.begins(t, d, pen.One(d.Pen, 0, 0, 1, 4))
			if most := w.slowest(); w.readyIn(t, d, most) == 0 {
				t.Fatalf("P20.4 (c): %v: it isn't ready behind %d fair rounds", w, most)
			}
			met[fmt.Sprint("mode ", mode, ", tails ", strings.Count(g.text, " tail "))]++
		}
	}
	for mode := 1; mode <= 3; mode++ {
		wantCases(t, met, 20, fmt.Sprint("mode ", mode, ", tails 0"), fmt.Sprint("mode ", mode, ", tails 1"))
	}
}

// lastOf gives the configuration of the marker-free system at which no event is possible any more.
func lastOf(f *flow.Flow, d *pen.Pen) api.Config {
	c := f.Start()
	for {
		l := f.Enabled(c)
		if len(l) == 0 {
			return c
		}
		c, _ = f.Step(c, l[d.Below(len(l))])
	}
}

// TestSame: P20.6: plans in which no task has two in ports give the output of the marker-free system, whatever the schedule, the mode and the falls were.
func TestSame(t *testing.T) {
	met := map[string]int{}
	for seed := range 200 {
		d := seeded(4000 + seed)
		p := d.Lean()
		p.Cap = pen.One(d.Pen, 1, 2, api.MaxCap)
		g := d.groundOf(p)
		_, _, _, f := g.parts()
		want := lastOf(f, d.Pen)
		for mode := 1; mode <= 3; mode++ {
			g = g.in(mode)
			w := g.watch(g.open(t), map[string]int{})
			w.plays(t, d.at(g), pen.One(d.Pen, 0, 50, 200))
			w.stands(t)
			if !w.rests(t, d) {
				t.Fatalf("P20.6: %v: it doesn't come to rest", w)
			}
			w.step(t, api.Op{Kind: api.OpTrigger})
			for w.e.Status().Under != 0 {
				w.round(t, d.Round())
			}
			if s := w.e.Status(); s.Last != s.Next-1 || !equal.Config(api.Config{Outs: w.e.Committed()}, api.Config{Outs: want.Outs}) {
				t.Fatalf("P20.6: %v: %s is committed, want %s; the status is %s", w, pen.TellLists(w.e.Committed()), pen.TellLists(want.Outs), statusTold(s))
			}
			lives := 0
			for _, entry := range w.e.Trail() {
				if entry.Kind == api.TrailUp {
					lives++
				}
			}
			met[fmt.Sprint("output: ", slices.ContainsFunc(want.Outs, func(l []api.Record) bool { return len(l) > 0 }))]++
			met[fmt.Sprint("several lives: ", lives > 2)]++
		}
	}
	wantCases(t, met, 200, "output: true", "several lives: true", "several lives: false")
}

// great gives two sources whose records, once their values are made as great as a value may be, come to one sink.
func great(count int) ground {
	tape := strings.TrimSuffix(strings.Repeat("twelve bytes=\"a text of 24 bytes, just\" | ", count), " | ")
	return reads(8, tape+" / "+tape, "a source 0", "b source 1", "u union", "m map key ; [val,val,val,val,val,[val,val,val,val,val]]", "k sink", "a.0 u.0", "b.0 u.1", "u.0 m.0", "m.0 k.0")
}

// TestGreatParts: a part of 80 records is stored, however great they are; one that can't be is given up alone, and smaller ones go on.
func TestGreatParts(t *testing.T) {
	let := "pick 0 0; pick 2 0; pick 3 0; pick 4 0; pick 1 0; pick 2 1; pick 3 0; pick 4 0"
	take := "trigger; pick 0 0; pick 1 0; pick 2 0; pick 2 1; pick 3 0; pick 4 0; post; post; post; post; post"
	for mode := 1; mode <= 3; mode++ {
		w := great(40).in(mode).watch(great(40).in(mode).open(t), map[string]int{})
		for _, op := range opsOf("repeat 40;" + let + "; end;" + take) {
			w.step(t, op)
		}
		if s, l := w.e.Status(), w.e.Committed(); s.Last != 1 || len(l[0]) != 80 || !w.isSmall(w.shots[1]) {
			t.Errorf("P20.7: mode %d: 80 records: the status is %s, %d records are committed", mode, statusTold(s), len(l[0]))
		}
	}
	inModes(t, "P19.4, P20.5", great(60), "repeat 60;"+let+"; end;"+take, "status = up next 2 aborts 1", "files =", "outs =", take, "status = up next 3 aborts 2",
		"crash; recover -> 11 12", "repeat 30;"+let+"; end;"+take, "status = up last 1 next 2", "repeat 30;"+let+"; end;"+take, "status = up last 2 next 3")
}

// TestChains: states of many cells are stored as differences; whatever falls and fails, the shots that need one another are kept, and are right.
func TestChains(t *testing.T) {
	met, chained := map[string]int{}, 0
	for seed := range 12 {
		d := seeded(5000 + seed)
		d.Calls = 60
		var tape []api.Record
		for n := range 60 {
			tape = append(tape, api.Record{Key: fmt.Sprint("k", n%25), Val: api.Value{Kind: api.Int, Int: int64(n)}})
		}
		p := pen.ReadPlan("s source 0", "f fold 0 ; acc+val", "w window 3", "e tee", "j join", "k sink", "s.0 e.0", "e.0 f.0", "e.1 w.0", "f.0 j.0", "w.0 j.1", "j.0 k.0")
		p.Cap = 4
		g := on(p, [][]api.Record{tape}).in(seed%3 + 1)
		w := g.watch(g.open(t), met)
		d.at(g)
		for range 14 {
			w.plays(t, d, 30)
			if !w.e.Status().Up {
				continue
			}
			if w.begins(t, d, 0); w.readyIn(t, d, 60) == 0 {
				t.Fatalf("P20.4: %v: it isn't ready behind 60 rounds", w)
			}
			ids := map[string]bool{}
			for _, f := range w.e.Files() {
				if strings.HasPrefix(f.Name, "seg-") {
					ids[f.Name[4:8]] = true
				}
			}
			if len(ids) > 3 && !w.rigged {
				chained++
			}
		}
		if why := w.lineFault(); why != "" {
			t.Fatalf("%v: %s", w, why)
		}
	}
	if chained < 20 {
		t.Errorf("P12.3: segments of shots that others alone need are there %d times, want 20", chained)
	}
}
