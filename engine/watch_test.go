package engine_test

import (
	"fmt"
	"slices"

	"eddy/api"
	"eddy/disk"
	"eddy/engine"
	"eddy/equal"
	"eddy/flow"
	"eddy/pen"
	"eddy/vault"
	"eddy/witness"
)

// A watch follows an engine over an empty disk, step by step, and holds it against the marker-free system and against its own trail. Nothing is spoilt.
type watch struct {
	ground
	plan      api.Plan
	sh        api.Shape
	tapes     [][]api.Record
	flow      *flow.Flow
	e         *engine.Engine
	config    api.Config // behind the last step
	start     api.Config // where this life began
	seen      int        // so many entries of the trail
	copies    map[copied]api.State
	shots     map[int]api.Config // of each number, the configuration of the last shot that got ready
	complete  int                // the newest one that was told complete, or at which a life began
	committed [][]api.Record
	handed    int // so many parts of the snapshot under way wait to be taken
	taken     int // so many were taken
	rigged    bool
	past      []api.Op
	met       map[string]int
}

// copied is a task's copy for a snapshot.
type copied struct{ id, task int }

func (g ground) watch(e *engine.Engine, met map[string]int) *watch {
	w := &watch{ground: g, e: e, copies: map[copied]api.State{}, shots: map[int]api.Config{}, met: met}
	w.plan, w.sh, w.tapes, w.flow = g.parts()
	w.committed = make([][]api.Record, len(w.sh.Sinks))
	w.start, w.config, w.seen = w.flow.Start(), w.flow.Start(), 1
	return w
}

func (w *watch) meet(words ...any) {
	w.met[fmt.Sprint("mode ", w.mode, ": ", fmt.Sprint(words...))]++
}

func (w *watch) String() string { return fmt.Sprint(w.ground, "\n", opsTold(w.past)) }

// does lets the engine do a step, and tells what is wrong with it.
func (w *watch) does(op api.Op) (int, string) {
	w.past = append(w.past, op)
	before := w.e.Status()
	var files []api.File
	if !before.Up {
		files = w.e.Files()
	}
	did := w.e.Do(op)
	trail := w.e.Trail()
	news := trail[w.seen:]
	w.seen = len(trail)
	why := w.committedFault()
	switch {
	case why != "":
	case before.Halted || w.e.Status().Halted:
		why = "P20.5: the engine halts"
	case !before.Up && op.Kind == api.OpRecover:
		why = w.upFault(op, did, news, files)
	case !before.Up:
		why = w.nothingFault(did, api.DidDown, news)
	case op.Kind == api.OpPick:
		why = w.pickFault(op, did, news)
	case op.Kind == api.OpTrigger:
		why = w.triggerFault(before, did, news)
	case op.Kind == api.OpPost:
		why = w.postFault(before, did, news, trail)
	case op.Kind == api.OpAbort:
		w.handed, w.taken = 0, 0
	case op.Kind == api.OpArm || op.Kind == api.OpFail:
		w.rigged = w.rigged || did == api.DidRig
	}
	if why == "" {
		why = w.configFault()
	}
	return did, why
}

// committedFault tells where committed output isn't a first part of what the run puts out, or has shrunk.
func (w *watch) committedFault() string {
	now := w.e.Committed()
	c := w.e.Config()
	for k, l := range w.committed {
		if len(now[k]) < len(l) || !equal.Records(now[k][:len(l)], l) {
			return fmt.Sprint("P20.3: of sink ", k, " ", pen.TellRecords(l), " was committed, and now ", pen.TellRecords(now[k]))
		}
		if w.e.Status().Up && (len(now[k]) > len(c.Outs[k]) || !equal.Records(now[k], c.Outs[k][:len(now[k])])) {
			return fmt.Sprint("P20.3: of sink ", k, " ", pen.TellRecords(now[k]), " is committed, and the output is ", pen.TellRecords(c.Outs[k]))
		}
	}
	w.committed = now
	return ""
}

// configFault tells where the configuration behind a step is another one than the step made.
func (w *watch) configFault() string {
	want := w.config
	if !w.e.Status().Up {
		want = api.Config{}
	}
	if got := w.e.Config(); !equal.Config(got, want) {
		return "P20.1: the configuration is " + pen.TellConfig(got) + ", want " + pen.TellConfig(want)
	}
	return ""
}

func (w *watch) nothingFault(did, want int, news []api.Trail) string {
	if did != want || len(news) > 0 {
		return fmt.Sprint("P19.3: the step answers ", did, ", the trail gets ", pen.TellTrail(news))
	}
	return ""
}

// pickFault looks at the events, and at the copies: each is made within a pick of its own task.
func (w *watch) pickFault(op api.Op, did int, news []api.Trail) string {
	steps := slices.DeleteFunc(slices.Clone(news), func(e api.Trail) bool { return e.Kind != api.TrailStep })
	switch {
	case did == api.DidStep:
		if len(news) != 1 || news[0] != (api.Trail{Kind: api.TrailStep, Task: op.A, Port: op.B}) {
			return "P20.1: an event is told as " + pen.TellTrail(news)
		}
		after, e := w.flow.Step(w.config, api.Event{Task: op.A, Port: op.B})
		if e != api.OK {
			return fmt.Sprint("P20.1: the event can't happen: error ", int(e))
		}
		w.config = after
	case len(steps) > 0:
		return "P20.1: a pick that is no event tells " + pen.TellTrail(news)
	}
	under := w.e.Status().Under
	for _, entry := range news {
		switch entry.Kind {
		case api.TrailCopy:
			if did != api.DidMark || entry.Task != op.A {
				return "P20.1: a copy is made within another pick: " + pen.TellTrail(news)
			}
			w.copies[copied{entry.Id, entry.Task}] = w.config.States[entry.Task]
		case api.TrailPart:
			if entry.Id == under {
				w.handed++
			}
		}
	}
	return ""
}

func (w *watch) triggerFault(before api.Status, did int, news []api.Trail) string {
	if before.Under != 0 {
		return w.nothingFault(did, api.DidNothing, news)
	}
	w.handed, w.taken = 0, 0
	after := w.e.Status()
	if did != api.DidTrigger || len(news) != 1 || news[0] != (api.Trail{Kind: api.TrailTrigger, Id: before.Next}) || after.Under != before.Next || after.Next != before.Next+1 {
		return fmt.Sprint("P20.7: a trigger answers ", did, ", the trail gets ", pen.TellTrail(news), ", the status is ", statusTold(after))
	}
	return ""
}

// postFault looks at a post: each takes one part of those that wait, and with the last one the shot is ready.
func (w *watch) postFault(before api.Status, did int, news []api.Trail, trail []api.Trail) string {
	if w.handed == 0 {
		return w.nothingFault(did, api.DidEmpty, news)
	}
	w.handed--
	if w.taken++; w.taken < len(w.plan.Tasks) {
		return w.nothingFault(did, api.DidAck, news)
	}
	id := before.Under
	w.handed, w.taken = 0, 0
	if len(news) == 0 || news[0] != (api.Trail{Kind: api.TrailReady, Id: id}) {
		return fmt.Sprint("P20.7: the last part is taken: ", did, ", the trail gets ", pen.TellTrail(news))
	}
	if why := w.cutFault(id, did, trail); why != "" {
		return why
	}
	if slices.Contains(news, api.Trail{Kind: api.TrailComplete, Id: id}) {
		w.complete = id
	}
	small := w.isSmall(w.shots[id])
	w.meet("ready, rigged: ", w.rigged, ", small: ", small, ", did ", did)
	if w.rigged || !small {
		return ""
	}
	if did != api.DidComplete {
		return fmt.Sprint("P20.7: nothing was to go wrong, and the store answers ", did)
	}
	if got, want := pen.TellLists(w.committed), pen.TellLists(w.shots[id].Outs); got != want {
		return fmt.Sprint("P20.7: behind shot ", id, " ", got, " is committed, want ", want)
	}
	return ""
}

// isSmall tells whether no part of a shot holds more than 80 values and records.
func (w *watch) isSmall(c api.Config) bool {
	held := make([]int, len(w.plan.Tasks))
	for task, s := range c.States {
		for _, cell := range s.Cells {
			held[task] += len(cell.Vals)
		}
	}
	for edge, l := range c.Lanes {
		held[w.plan.Edges[edge].To] += len(l)
	}
	for k, sink := range w.sh.Sinks {
		held[sink] += len(c.Outs[k])
	}
	return slices.Max(held) <= 80
}

// cutFault tells where a shot that is ready isn't a cut of its life.
func (w *watch) cutFault(id, did int, trail []api.Trail) string {
	tasks := len(w.plan.Tasks)
	before, after, e := witness.Split(trail, id, tasks)
	if e != api.OK {
		return fmt.Sprint("P20.1: Split answers error ", int(e))
	}
	cut, _, e := w.flow.Replay(w.start, before)
	if e != api.OK {
		return fmt.Sprint("P20.1: the events ahead of the copies can't happen: error ", int(e))
	}
	for task, s := range cut.States {
		if c, ok := w.copies[copied{id, task}]; !ok || !equal.State(c, s) {
			return fmt.Sprint("P20.1: the copy of task ", task, " is ", pen.TellState(c), ", its events lead to ", pen.TellState(s))
		}
	}
	if did == api.DidComplete {
		shot, err := w.e.Shot(id)
		if err != nil {
			return fmt.Sprint("P19.11: a complete shot isn't loaded: ", err)
		}
		stored := api.Config{Lanes: make([][]api.Record, len(w.plan.Edges))}
		for task, p := range shot.Parts {
			stored.States = append(stored.States, p.State)
			if k := slices.Index(w.sh.Sinks, task); k >= 0 {
				stored.Outs = append(stored.Outs, w.config.Outs[k][:p.State.Num])
			}
		}
		for k, edge := range w.plan.Edges {
			stored.Lanes[k] = shot.Parts[edge.To].Logs[edge.In]
		}
		if !equal.Config(stored, cut) {
			return "P20.1: the shot is " + pen.TellConfig(stored) + ", the events lead to " + pen.TellConfig(cut)
		}
	}
	if e := witness.Prove(w.flow, w.start, cut, w.config, trail, id, tasks); e != api.OK {
		return fmt.Sprint("P20.1: Prove answers error ", int(e))
	}
	w.shots[id] = cut
	w.meet("a cut, events on both sides: ", len(before) > 0 && len(after) > 0)
	return ""
}

// newestOf tells which shot stands whole, the newest one, where a machine comes up over files.
func newestOf(files []api.File, keep []int) int {
	d, e := disk.New(files)
	if e != api.OK {
		return -1
	}
	d.Restart(keep)
	ids := vault.Open(d).Ids()
	if len(ids) == 0 {
		return 0
	}
	return ids[len(ids)-1]
}

// upFault looks at a coming up: it is at the newest shot whose bytes all stand.
func (w *watch) upFault(op api.Op, did int, news []api.Trail, files []api.File) string {
	w.rigged, w.handed, w.taken = op.A > 0, 0, 0
	if len(news) == 1 && news[0].Kind == api.TrailDown && did == api.DidDown {
		w.meet("falls ahead of its life")
		return ""
	}
	newest := newestOf(files, op.Keep)
	if len(news) == 0 || news[0] != (api.Trail{Kind: api.TrailUp, Id: newest}) || newest < w.complete {
		return fmt.Sprint("P20.2: the newest shot is ", newest, ", the newest complete one ", w.complete, ", the trail gets ", pen.TellTrail(news))
	}
	w.meet("comes up at one that wasn't told complete: ", newest > w.complete)
	w.complete = newest
	if w.start = w.flow.Start(); newest > 0 {
		shot, ok := w.shots[newest]
		if !ok {
			return fmt.Sprint("P20.2: shot ", newest, " was never ready")
		}
		w.start = shot
	}
	w.config = w.start
	clear(w.copies)
	w.meet("a life at a shot: ", newest > 0, ", did ", did)
	if did == api.DidDown {
		return ""
	}
	if s := w.e.Status(); did != api.DidUp || s.Last != newest || s.Under != 0 || s.Aborts != 0 || s.Next <= newest {
		return fmt.Sprint("P19.2: a coming up answers ", did, ", the status is ", statusTold(s))
	}
	return ""
}

// lineFault tells where the line of all lives doesn't lead from the beginning to where the engine stands.
func (w *watch) lineFault() string {
	if !w.e.Status().Up {
		return ""
	}
	l, e := witness.Line(w.e.Trail(), len(w.plan.Tasks))
	if e != api.OK {
		return fmt.Sprint("P18.10: Line answers error ", int(e))
	}
	c, n, e := w.flow.Replay(w.flow.Start(), l)
	if e != api.OK || n != len(l) || !equal.Config(c, w.e.Config()) {
		return fmt.Sprint("P18.10, P20.3: ", n, " of ", len(l), " events of the line can happen, error ", int(e), ", and lead to ", pen.TellConfig(c), ", the configuration is ", pen.TellConfig(w.e.Config()))
	}
	return ""
}
