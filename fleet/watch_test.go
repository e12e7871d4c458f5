package fleet_test

import (
	"fmt"
	"testing"

	"eddy/api"
	"eddy/equal"
	"eddy/fleet"
	"eddy/flow"
	"eddy/pen"
)

// A watch follows a fleet call by call, and holds it against the model, against the marker-free system and against its own trail.
type watch struct {
	kind
	fleet   *fleet.Fleet
	model   *model
	flow    *flow.Flow
	config  api.Config // behind the last call
	past    []call
	most    []int // by edge, how many records may lie in its lane; -1: any number
	forging bool  // packets may be spoilt by more than one flip: then the configuration may be anything
}

func (k kind) watch(t *testing.T) *watch {
	t.Helper()
	w := &watch{kind: k, fleet: k.open(t), model: k.model(), flow: k.flow(t), config: k.start, most: make([]int, len(k.plan.Edges))}
	for edge := range w.most {
		w.most[edge] = max(k.plan.Cap, len(k.start.Lanes[edge]))
		if w.model.back(edge) {
			w.most[edge] = -1
		}
	}
	return w
}

// String tells the kind and the last calls.
func (w *watch) String() string {
	return fmt.Sprint(w.kind, "\n", len(w.past), " calls, the last of them ", w.past[max(0, len(w.past)-12):])
}

// does makes a call, and tells what is wrong with its answer and with what is told behind it.
func (w *watch) does(c call) (answer, string) {
	w.past = append(w.past, c)
	got, want := c.of(w.fleet), c.of(w.model)
	if !same(got, want) {
		return got, "P24.3 to P24.9: the last answers " + c.told(got) + ", want " + c.told(want)
	}
	for _, q := range questions() {
		if got, want := q.of(w.fleet), q.of(w.model); !same(got, want) {
			return got, "P24.6 to P24.11: behind it " + q.What + " answers " + q.told(got) + ", want " + q.told(want)
		}
	}
	if w.forging {
		return got, ""
	}
	if why := w.stepFault(c, got.Number); why != "" {
		return got, why
	}
	for edge, l := range w.config.Lanes {
		if w.most[edge] >= 0 && len(l) > w.most[edge] {
			return got, fmt.Sprint("P24.17: the lane of edge ", edge, " holds ", len(l), " records")
		}
	}
	if c.What == "post" && got.Number == api.DidReady {
		return got, w.cutFault(got.Shot)
	}
	return got, ""
}

// stepFault tells where the configuration behind a call isn't what the marker-free system makes of the one ahead of it.
func (w *watch) stepFault(c call, did int) string {
	want := w.config
	if c.What == "pick" && did == api.DidStep {
		after, e := w.flow.Step(w.config, api.Event{Task: c.A, Port: c.B})
		if e != api.OK {
			return fmt.Sprint("P24.13: the step can't happen in ", pen.TellConfig(w.config), ": error ", e)
		}
		want = after
	}
	if w.config = w.fleet.Config(); !equal.Config(w.config, want) {
		return "P24.13: the configuration is " + pen.TellConfig(w.config) + ", want " + pen.TellConfig(want)
	}
	return ""
}

// split gives the steps of a trail up to where a snapshot was ready, those ahead of their task's copy and the others, and how many copies of each task there are. Without a snapshot (0) all steps are ahead.
func split(l []api.Trail, id int) (before, after []api.Event, copies map[int]int) {
	copies = map[int]int{}
	for _, e := range l {
		switch {
		case e.Kind == api.TrailReady && e.Id == id:
			return before, after, copies
		case e.Kind == api.TrailCopy && e.Id == id:
			copies[e.Task]++
		case e.Kind == api.TrailStep && copies[e.Task] == 0:
			before = append(before, api.Event{Task: e.Task, Port: e.Port})
		case e.Kind == api.TrailStep:
			after = append(after, api.Event{Task: e.Task, Port: e.Port})
		}
	}
	return before, after, copies
}

// shotConfig gives the configuration of a shot, where the fleet stands at another one.
func (w *watch) shotConfig(s api.Shot) api.Config {
	c := api.Config{Lanes: make([][]api.Record, len(w.plan.Edges))}
	for task, p := range s.Parts {
		c.States = append(c.States, p.State)
		if w.model.is(task, api.Sink) {
			c.Outs = append(c.Outs, w.config.Outs[len(c.Outs)][:p.State.Num])
		}
	}
	for k, e := range w.plan.Edges {
		c.Lanes[k] = s.Parts[e.To].Logs[e.In]
	}
	return c
}

// formFault tells where the parts of a shot aren't of the form that the plan asks for.
func (w *watch) formFault(s api.Shot) string {
	if len(s.Parts) != len(w.plan.Tasks) || s.Sum != w.sum {
		return fmt.Sprint("P24.6: a shot of ", len(s.Parts), " parts with the sum ", s.Sum)
	}
	for task, p := range s.Parts {
		if logs := len(w.model.edgesInto(task)); len(p.Logs) != logs {
			return fmt.Sprint("P24.6: the part of task ", task, " has ", len(p.Logs), " logs, want ", logs)
		}
	}
	return ""
}

// leads tells where events don't lead from one configuration to another.
func (w *watch) leads(promise string, from, to api.Config, l []api.Event) string {
	got, n, e := w.flow.Replay(from, l)
	if n == len(l) && e == api.OK && equal.Config(got, to) {
		return ""
	}
	return fmt.Sprint(promise, ": ", n, " of the events ", l, " can happen (error ", e, ") and lead to ", pen.TellConfig(got), ", want ", pen.TellConfig(to))
}

// cutFault tells where a shot that has just got ready isn't a cut of the run.
func (w *watch) cutFault(s api.Shot) string {
	if why := w.formFault(s); why != "" {
		return why
	}
	before, after, copies := split(w.fleet.Trail(), s.Id)
	for task := range w.plan.Tasks {
		if copies[task] != 1 {
			return fmt.Sprint("P24.14: there are ", copies[task], " copies of task ", task)
		}
	}
	shot := w.shotConfig(s)
	if why := w.leads("P24.14, P20.9 (b), ahead of the copies", w.start, shot, before); why != "" {
		return why
	}
	return w.leads("P24.14, P20.9 (b), behind the copies", shot, w.config, after)
}

// runFault tells where the steps of the whole trail don't lead from the start to where the fleet stands.
func (w *watch) runFault() string {
	all, _, _ := split(w.fleet.Trail(), 0)
	return w.leads("P24.13, P20.9 (a)", w.start, w.fleet.Config(), all)
}

// must makes a call that must be well.
func (w *watch) must(t *testing.T, c call) answer {
	t.Helper()
	a, why := w.does(c)
	if why != "" {
		t.Fatalf("%v: %s", w, why)
	}
	return a
}

// follow lets a fleet make the calls of a script, and tells whether all is well.
func follow(t *testing.T, k kind, script []call, forging bool) bool {
	t.Helper()
	w := k.watch(t)
	w.forging = forging
	for _, c := range script {
		if _, why := w.does(c); why != "" {
			t.Errorf("%v: %s", w, why)
			return false
		}
	}
	if forging {
		return true
	}
	if why := w.runFault(); why != "" {
		t.Errorf("%v: %s", w, why)
		return false
	}
	return true
}
