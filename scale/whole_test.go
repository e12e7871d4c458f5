package scale_test

import (
	"fmt"
	"slices"
	"testing"

	"eddy/api"
	"eddy/engine"
	"eddy/equal"
	"eddy/pen"
	"eddy/plan"
	"eddy/scale"
	"eddy/witness"
)

// A journey is an engine whose plan is spread again and again: what was committed at every point of it, and the one run, in the plan as it is now, that leads to where the engine began.
type journey struct {
	ground
	e     *engine.Engine
	began int         // the shot at which the engine began
	run   []api.Event // from the initial configuration to there
	past  [][][]api.Record
	full  bool // the task had no room for a new key: then nothing more is promised
	met   map[string]int
}

// notes lays down what is committed now, and tells whether it has shrunk.
func (j *journey) notes() string {
	now := j.e.Committed()
	if len(j.past) > 0 {
		if why := prefixFault(j.past[len(j.past)-1], now); why != "" {
			return "P20.8: committed output has shrunk: " + why
		}
	}
	if len(j.past) == 0 || !slices.EqualFunc(now, j.past[len(j.past)-1], equal.Records) {
		j.past = append(j.past, now)
	}
	return ""
}

// prefixFault tells where a list of outputs isn't a first part of another one.
func prefixFault(part, whole [][]api.Record) string {
	if len(part) != len(whole) {
		return fmt.Sprint(len(part), " outputs, and ", len(whole))
	}
	for k, l := range part {
		if len(l) > len(whole[k]) || !equal.Records(l, whole[k][:len(l)]) {
			return fmt.Sprint("of sink ", k, " ", pen.TellRecords(l), " isn't a first part of ", pen.TellRecords(whole[k]))
		}
	}
	return ""
}

// plays lets the engine do drawn steps: as many as so many fair rounds have.
func (j *journey) plays(w *writer, rounds int) string {
	w.At(j.shape())
	for range rounds * (len(w.Picks) + 1) {
		did := j.e.Do(w.Step(j.e.Status()))
		if why := j.notes(); why != "" {
			return why
		}
		if did == api.DidComplete {
			j.met["complete"]++
		}
	}
	return ""
}

// shoots lets records come to the task, which takes none of them, and then takes a snapshot.
func (j *journey) shoots(w *writer) string {
	w.At(j.shape())
	for range 4 * len(w.Picks) {
		if op := w.Picks[w.Below(len(w.Picks))]; op.A != j.task {
			j.e.Do(op)
		}
	}
	j.e.Do(api.Op{Kind: api.OpTrigger})
	for n := 0; j.e.Status().Under > 0 && n < 60; n++ {
		for _, op := range w.Round() {
			j.e.Do(op)
			if why := j.notes(); why != "" {
				return why
			}
		}
	}
	return ""
}

// falls lets the engine do steps, snapshots among them, till the machine is down, in most cases within a call of the disk.
func (j *journey) falls(w *writer) string {
	w.At(j.shape())
	j.e.Do(api.Op{Kind: api.OpTrigger})
	j.e.Do(api.Op{Kind: api.OpArm, A: w.Below(200)})
	for n := 0; j.e.Status().Up && n < 30; n++ {
		for _, op := range w.Round() {
			j.e.Do(op)
			if why := j.notes(); why != "" {
				return why
			}
		}
	}
	return ""
}

// line gives the run that leads to where the engine stands, which must be up.
func (j *journey) line() ([]api.Event, string) {
	trail := j.e.Trail()
	// What is the first life's shot for the engine is the beginning for the trail.
	for k, entry := range trail {
		if entry.Kind == api.TrailUp && entry.Id == j.began {
			trail[k].Id = 0
		}
	}
	l, e := witness.Line(trail, len(j.plan.Tasks))
	if e != api.OK {
		return nil, fmt.Sprint("P18.5: Line answers error ", int(e))
	}
	return slices.Concat(j.run, l), ""
}

// runFault tells where the run to where the engine stands isn't one of the marker-free system, or where what was committed isn't a first part of its outputs.
func (j *journey) runFault(run []api.Event) string {
	f := j.flow()
	end, n, e := f.Replay(f.Start(), run)
	if e != api.OK || n != len(run) || !equal.Config(end, j.e.Config()) {
		return fmt.Sprint("P20.8: ", n, " of ", len(run), " events can happen, error ", int(e), ", and lead to ", pen.TellConfig(end), ", the engine is at ", pen.TellConfig(j.e.Config()))
	}
	for _, committed := range j.past {
		if why := prefixFault(committed, end.Outs); why != "" {
			return "P20.8: what was committed isn't of the one run: " + why
		}
	}
	return ""
}

// moves spreads the task, over the disk's files as they are, and begins another engine there.
func (j *journey) moves(t *testing.T, mode int) string {
	files := j.e.Files()
	j.met[fmt.Sprint("up: ", j.e.Status().Up)]++
	text, moved, err := j.files(files)
	if err != nil {
		return "P21.8: Files answers " + errorTold(err)
	}
	// What the first engine would be at, had it fallen and come up here.
	if j.e.Status().Up {
		j.e.Do(api.Op{Kind: api.OpCrash})
	}
	if did := j.e.Do(api.Op{Kind: api.OpRecover}); did != api.DidUp {
		return fmt.Sprint("P19.2: a recover answers ", did)
	}
	run, why := j.line()
	if why != "" {
		return why
	}
	if why := j.runFault(run); why != "" {
		return why
	}
	start, from := j.flow().Start(), j.e.Config()
	if mostCells(j.ground, j.flow(), start, run) >= api.MaxCells {
		j.full = true
		return ""
	}
	followed, e := scale.Follow(j.plan, j.tapes, j.task, start, run, j.bounds...)
	to, f := scale.Move(j.plan, j.tapes, j.task, from, j.bounds...)
	wide := j.wide()
	if printed, _ := plan.PrintPlan(wide.plan); e != api.OK || f != api.OK || printed != text {
		return fmt.Sprint("P21.8: the text is ", text, ", errors ", int(e), int(f))
	}
	next := wide.open(t, mode, moved)
	if !equal.Config(next.Config(), to) || next.Status().Last != j.e.Status().Last {
		return fmt.Sprint("P21.12: it comes up at ", pen.TellConfig(next.Config()), ", want ", pen.TellConfig(to))
	}
	j.met[fmt.Sprint("at a shot: ", next.Status().Last > 0)]++
	for k, l := range from.Lanes {
		if len(l) > 0 && k == j.shape().Ins[j.task][0] {
			j.met["records on their way to the task"]++
		}
	}
	if len(from.States[j.task].Cells) > 1 {
		j.met["cells"]++
	}
	j.ground, j.e, j.began, j.run = wide, next, next.Status().Last, followed
	return j.notes()
}

// ends lets the machine stand, and looks at all of it.
func (j *journey) ends() string {
	if !j.e.Status().Up {
		j.e.Do(api.Op{Kind: api.OpRecover, Keep: []int{9999}})
	}
	if why := j.notes(); why != "" {
		return why
	}
	run, why := j.line()
	if why != "" {
		return why
	}
	return j.runFault(run)
}

// again chooses a task of the plan as it is now that can be spread, and bounds.
func (j *journey) again(w *writer) bool {
	for range 20 {
		tasks := keyed(j.plan)
		g := j.at(tasks[w.Below(len(tasks))]).by(w.someBounds()...)
		if _, e := scale.Spread(g.plan, g.task, g.bounds...); e == api.OK {
			j.ground = g
			return true
		}
	}
	return false
}

func (j *journey) fails(t *testing.T, seed int, why string) {
	t.Helper()
	if why != "" {
		t.Fatalf("seed %d: %v: %s", seed, j.ground, why)
	}
}

// travel lets an engine play, be spread, and play, so often as the plan has room for.
func travel(t *testing.T, seed int, g ground, w *writer, met map[string]int, rounds int) {
	t.Helper()
	j := &journey{ground: g, e: g.open(t, w.Between(1, 3), nil), met: met}
	w.Calls = pen.One(w.Pen, 60, 200, 800)
	for spread := range 3 {
		j.fails(t, seed, j.plays(w, w.Below(rounds)))
		switch w.Below(4) {
		case 0:
			j.fails(t, seed, j.falls(w))
		case 1, 2:
			j.fails(t, seed, j.shoots(w))
		}
		j.fails(t, seed, j.moves(t, w.Between(1, 3)))
		if j.full {
			met["full"]++
			return
		}
		met[fmt.Sprint("spread ", spread+1)]++
		if !j.again(w) {
			break
		}
	}
	before := len(j.past)
	j.fails(t, seed, j.plays(w, rounds))
	j.fails(t, seed, j.ends())
	if ups := slices.DeleteFunc(j.e.Trail(), func(e api.Trail) bool { return e.Kind != api.TrailUp }); len(ups) > 1 {
		met["several lives"]++
	}
	if len(j.past) > before && before > 1 {
		met["committed ahead and behind"]++
	}
}

// TestScale: P20.8, of drawn plans, tapes and scripts in all modes, with falls at any step and any byte and calls that fail, ahead of the move and behind it.
func TestScale(t *testing.T) {
	met := map[string]int{}
	for seed := range 300 {
		w := seeded(seed)
		travel(t, seed, w.groundOf(func() api.Plan { return pen.One(w.Pen, w.Plan(), w.Lean()) }, 40), w, met, 40)
	}
	wantCases(t, met, 50, "spread 1", "up: true", "up: false", "at a shot: true", "at a shot: false", "complete", "several lives", "cells")
	wantCases(t, met, 30, "committed ahead and behind")
	wantCases(t, met, 10, "records on their way to the task")
}

// TestScaleAgain: P20.8, of small plans that are spread several times; a copy of a copy too.
func TestScaleAgain(t *testing.T) {
	met := map[string]int{}
	for seed := range 150 {
		w := seeded(7000 + seed)
		g := grounds()[seed%3]
		for g.tapes = nil; g.tapes == nil || !g.hasTexts(); {
			g.tapes = [][]api.Record{w.Records(w.Between(20, api.MaxTape), 0)}
		}
		g = g.by("k2")
		travel(t, seed, g, w, met, 40)
	}
	wantCases(t, met, 50, "spread 1", "spread 2", "committed ahead and behind", "cells")
	wantCases(t, met, 20, "spread 3")
	wantCases(t, met, 10, "records on their way to the task")
}
