package witness_test

import (
	"fmt"
	"slices"

	"eddy/api"
	"eddy/pen"
	"eddy/runner"
)

// A shot is a snapshot that got ready in a run: its configuration, and the one at which the run stood then.
type shot struct {
	id       int
	cut, end api.Config
}

// A run is a runner in a mode, from a configuration on.
type run struct {
	ground
	mode  int
	start api.Config
	*runner.Runner
	shots []shot
}

// begins gives a run; its first snapshot is next.
func (g ground) begins(mode int, start api.Config, next int) *run {
	r, e := runner.New(g.plan, g.tapes, mode, start, next, 0)
	if e != api.OK {
		panic(fmt.Sprint("no runner: error ", int(e)))
	}
	return &run{ground: g, mode: mode, start: start, Runner: r}
}

func (r *run) String() string {
	return fmt.Sprintf("%v in mode %d from %s on: %s", r.ground, r.mode, pen.TellConfig(r.start), pen.TellTrail(r.Trail()))
}

// cutOf gives the configuration of a shot: its states; its logs in their lanes; as outputs the first State.Num records of each sink's.
func (r *run) cutOf(s api.Shot) api.Config {
	whole := r.Config()
	c := api.Config{Lanes: make([][]api.Record, len(r.plan.Edges))}
	for _, p := range s.Parts {
		c.States = append(c.States, p.State)
	}
	for edge, e := range r.plan.Edges {
		c.Lanes[edge] = s.Parts[e.To].Logs[e.In]
	}
	for k, sink := range r.sh.Sinks {
		c.Outs = append(c.Outs, whole.Outs[k][:s.Parts[sink].State.Num])
	}
	return c
}

// post lets the coordinator take a part, and tells whether a shot got ready by that.
func (r *run) post() bool {
	s, did := r.Post()
	if did != api.DidReady {
		return false
	}
	r.shots = append(r.shots, shot{s.Id, r.cutOf(s), r.Config()})
	return true
}

// ground draws a plan with tapes.
func (w *writer) ground() ground {
	if w.Below(5) == 0 {
		all := grounds()
		return all[w.Below(len(all))]
	}
	p := pen.One(w.Pen, w.Plan(), w.Plan(), w.Lean())
	return on(p, w.Tapes(p, pen.One(w.Pen, 2, 10, 40)))
}

// begun draws a run that has begun: at the initial configuration, or in the middle.
func (w *writer) begun(g ground, mode int) *run {
	start := g.Start()
	if w.Below(3) == 0 {
		start = w.Config(g.plan, g.tapes, pen.One(w.Pen, 1, 4, 10))
	}
	return g.begins(mode, start, pen.One(w.Pen, 1, 1, 7, api.MaxId-w.Below(3)))
}

// A pace is a way to draw picks: a task has several turns one behind the other, and a slow one seldom any, so that it falls behind the others, and markers reach it late.
type pace struct {
	*writer
	slow, task, turns int
}

func (w *writer) pace(g ground) *pace { return &pace{writer: w, slow: w.Below(g.tasks())} }

func (p *pace) pick(r *run) {
	if p.turns--; p.turns < 0 {
		p.task, p.turns = p.Below(r.tasks()), p.Below(6)
	}
	for p.task == p.slow && p.Below(8) > 0 {
		p.task = p.Below(r.tasks())
	}
	r.Pick(p.task, p.Below(max(1, len(r.sh.Ins[p.task]))))
}

// step draws a call of a run, and tells whether a shot got ready by it.
func (p *pace) step(r *run) bool {
	switch n := p.Below(60); {
	case n < 3:
		r.Trigger()
	case n == 3 && p.Below(8) == 0:
		r.Abort()
	case n < 10:
		return r.post()
	default:
		p.pick(r)
	}
	return false
}

// plays draws so many calls of a run.
func (w *writer) plays(r *run, calls int) {
	p := w.pace(r.ground)
	for range calls {
		p.step(r)
	}
}

// played draws a run that was played, so long that a shot gets ready in most cases.
func (w *writer) played(mode int) *run {
	g := w.ground()
	r := w.begun(g, mode)
	w.plays(r, w.Between(60, 200)*g.tasks())
	return r
}

// eventsUpTo gives the events of a run up to where a snapshot was ready, as they happened.
func eventsUpTo(l []api.Trail, id int) []api.Event {
	end := slices.Index(l, api.Trail{Kind: api.TrailReady, Id: id})
	var all []api.Event
	for _, e := range l[:end] {
		if e.Kind == api.TrailStep {
			all = append(all, api.Event{Task: e.Task, Port: e.Port})
		}
	}
	return all
}
