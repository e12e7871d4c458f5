package flow_test

import (
	"testing"

	"eddy/api"
	"eddy/flow"
	"eddy/shape"
	"eddy/stage"
	"eddy/value"
)

// A model is a second reading of the chapter. It asks the plan's edges themselves, and copies everything each time.
type model struct {
	plan  api.Plan
	tapes [][]api.Record
}

// fault tells New's error (P9.1).
func (m model) fault() api.Errno {
	if _, _, e := shape.Build(m.plan); e != api.OK {
		return e
	}
	if len(m.tapes) > 4 {
		return api.ErrFlowTape
	}
	for _, tape := range m.tapes {
		if len(tape) > 64 {
			return api.ErrFlowTape
		}
		for _, r := range tape {
			if value.CheckRecord(r) != api.OK || len(r.Loops) != 0 {
				return api.ErrFlowTape
			}
		}
	}
	for _, t := range m.plan.Tasks {
		if t.Kind == api.Source && t.Num >= len(m.tapes) {
			return api.ErrFlowTape
		}
	}
	return api.OK
}

// ends counts the edges that lead to a task, and those that begin at it.
func (m model) ends(task int) (ins, outs int) {
	for _, e := range m.plan.Edges {
		if e.To == task {
			ins++
		}
		if e.From == task {
			outs++
		}
	}
	return ins, outs
}

func (m model) kind(task int) int { return m.plan.Tasks[task].Kind }

func (m model) tape(task int) []api.Record { return m.tapes[m.plan.Tasks[task].Num] }

func (m model) stage(task int) *stage.Stage {
	ins, outs := m.ends(task)
	g, e := stage.New(m.plan.Tasks[task], ins, outs)
	if e != api.OK {
		panic("a task of a valid plan has no operator")
	}
	return g
}

// laneInto gives the lane of an in port, laneFrom that of an out port.
func (m model) laneInto(task, port int) int {
	for k, e := range m.plan.Edges {
		if e.To == task && e.In == port {
			return k
		}
	}
	return -1
}

func (m model) laneFrom(task, port int) int {
	for k, e := range m.plan.Edges {
		if e.From == task && e.Out == port {
			return k
		}
	}
	return -1
}

// output gives the number of a sink's output: how many sinks have lesser numbers.
func (m model) output(task int) int {
	n := 0
	for _, t := range m.plan.Tasks[:task] {
		if t.Kind == api.Sink {
			n++
		}
	}
	return n
}

func (m model) start() api.Config {
	return api.Config{
		States: make([]api.State, len(m.plan.Tasks)),
		Lanes:  make([][]api.Record, len(m.plan.Edges)),
		Outs:   make([][]api.Record, m.output(len(m.plan.Tasks))),
	}
}

func (m model) fits(c api.Config) api.Errno {
	if len(c.States) != len(m.plan.Tasks) || len(c.Lanes) != len(m.plan.Edges) || len(c.Outs) != m.output(len(m.plan.Tasks)) {
		return api.ErrFlowFit
	}
	for task, s := range c.States {
		if m.stage(task).Legal(s) != api.OK {
			return api.ErrFlowFit
		}
		if m.kind(task) == api.Source && s.Num > len(m.tape(task)) {
			return api.ErrFlowFit
		}
		if m.kind(task) == api.Sink && s.Num != len(c.Outs[m.output(task)]) {
			return api.ErrFlowFit
		}
	}
	for _, l := range append(append([][]api.Record{}, c.Lanes...), c.Outs...) {
		for _, r := range l {
			if value.CheckRecord(r) != api.OK {
				return api.ErrFlowFit
			}
		}
	}
	return api.OK
}

func (m model) step(c api.Config, e api.Event) (api.Config, api.Errno) {
	if err := m.fits(c); err != api.OK {
		return api.Config{}, err
	}
	if e.Task < 0 || e.Task >= len(m.plan.Tasks) {
		return api.Config{}, api.ErrFlowEvent
	}
	c = clone(c)
	var taken api.Record
	if m.kind(e.Task) == api.Source {
		if e.Port != 0 {
			return api.Config{}, api.ErrFlowEvent
		}
		if c.States[e.Task].Num == len(m.tape(e.Task)) {
			return api.Config{}, api.ErrFlowStuck
		}
		taken = clone(m.tape(e.Task)[c.States[e.Task].Num])
	} else {
		lane := m.laneInto(e.Task, e.Port)
		if lane < 0 {
			return api.Config{}, api.ErrFlowEvent
		}
		if len(c.Lanes[lane]) == 0 {
			return api.Config{}, api.ErrFlowStuck
		}
		taken = c.Lanes[lane][0]
		c.Lanes[lane] = c.Lanes[lane][1:]
	}
	s, sends, err := m.stage(e.Task).Step(c.States[e.Task], e.Port, taken)
	if err != api.OK {
		return api.Config{}, err
	}
	c.States[e.Task] = s
	for _, x := range sends {
		lane := m.laneFrom(e.Task, x.Out)
		c.Lanes[lane] = append(c.Lanes[lane], x.Rec)
	}
	if m.kind(e.Task) == api.Sink {
		out := m.output(e.Task)
		c.Outs[out] = append(c.Outs[out], taken)
	}
	return clone(c), api.OK
}

// asked gives every event there is, and some that there aren't.
func (m model) asked() []api.Event {
	var all []api.Event
	for task := -1; task <= len(m.plan.Tasks); task++ {
		for port := -1; port <= 4; port++ {
			all = append(all, api.Event{Task: task, Port: port})
		}
	}
	return all
}

func (m model) enabled(c api.Config) []api.Event {
	var all []api.Event
	for _, e := range m.asked() {
		if _, err := m.step(c, e); err == api.OK {
			all = append(all, e)
		}
	}
	return all
}

func (m model) replay(c api.Config, l []api.Event) (api.Config, int, api.Errno) {
	if err := m.fits(c); err != api.OK {
		return api.Config{}, 0, err
	}
	for n, e := range l {
		after, err := m.step(c, e)
		if err != api.OK {
			return c, n, err
		}
		c = after
	}
	return c, len(l), api.OK
}

// asModel fails the test where a call answers another thing than the model, and gives the events that are enabled.
func (f tried) asModel(t *testing.T, c api.Config) []api.Event {
	t.Helper()
	if got, want := f.Fits(c), f.fits(c); got != want {
		t.Fatalf("P9.3: %v: Fits(%v) answers error %d, want %d", f, tell(c), got, want)
	}
	enabled := f.Enabled(c)
	if want := f.enabled(c); !same(enabled, want) {
		t.Fatalf("P9.6: %v: Enabled(%v) answers %v, want %v", f, tell(c), enabled, want)
	}
	for _, e := range f.asked() {
		got, err := f.Step(c, e)
		if want, wantErr := f.step(c, e); err != wantErr || !same(got, want) {
			t.Fatalf("P9.5: %v: Step(%v, %v) answers %v, error %d, want %v, error %d", f, tell(c), e, tell(got), err, tell(want), wantErr)
		}
	}
	return enabled
}

// newAsModel fails the test where New answers another error than the model.
func newAsModel(t *testing.T, p api.Plan, tapes [][]api.Record) api.Errno {
	t.Helper()
	f, e := flow.New(p, tapes)
	want := model{p, tapes}.fault()
	if e != want || (f == nil) != (e != api.OK) {
		t.Errorf("P9.1: New(%+v, %s) answers %v, error %d, want %d", p, tell(tapes), f, e, want)
	}
	return want
}
