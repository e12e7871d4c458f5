package flow

import (
	"slices"

	"eddy/api"
	"eddy/fresh"
)

// stepper lets one event happen in a configuration that fits, or tells why it can't; then nothing has changed. It writes into the configuration's lists of states, lanes and outputs, and behind a lane or an output, but not into what hangs on these: so the configuration must be one of its own.
type stepper func(own *api.Config, e api.Event) api.Errno

// step is the stepper of this flow.
func (f *Flow) step(own *api.Config, e api.Event) api.Errno {
	if e.Task < 0 || e.Task >= len(f.nodes) || e.Port < 0 || e.Port >= f.nodes[e.Task].ports() {
		return api.ErrFlowEvent
	}
	n := f.nodes[e.Task]
	left := n.left(own, e)
	if len(left) == 0 {
		return api.ErrFlowStuck
	}
	state, sends, err := n.stage.Step(own.States[e.Task], e.Port, left[0])
	if err != api.OK {
		return err
	}
	own.States[e.Task] = state
	if n.kind != api.Source {
		own.Lanes[n.ins[e.Port]] = left[1:]
	}
	for _, s := range sends {
		lay(own.Lanes, n.outs[s.Out], s.Rec)
	}
	if n.kind == api.Sink {
		lay(own.Outs, n.output, left[0])
	}
	return api.OK
}

// lay lays a record at the end of a lane or an output.
func lay(lists [][]api.Record, at int, r api.Record) { lists[at] = append(lists[at], r) }

// events tells all events that there are, rising by task, then by port.
func (f *Flow) events() []api.Event {
	var all []api.Event
	for task, n := range f.nodes {
		for port := range n.ports() {
			all = append(all, api.Event{Task: task, Port: port})
		}
	}
	return all
}

// possible tells those of the events that can happen in a configuration, each by itself.
func possible(step stepper, c api.Config, l []api.Event) []api.Event {
	var all []api.Event
	for _, e := range l {
		own := owned(c)
		if step(&own, e) == api.OK {
			all = append(all, e)
		}
	}
	return all
}

// played lets events happen from a configuration on, one behind the other, till one can't.
func played(step stepper, c api.Config, l []api.Event) (api.Config, int, api.Errno) {
	own := owned(c)
	for n, e := range l {
		if err := step(&own, e); err != api.OK {
			return fresh.Config(own), n, err
		}
	}
	return fresh.Config(own), len(l), api.OK
}

// owned gives the configuration as one that a stepper can have.
func owned(c api.Config) api.Config {
	states := make([]api.State, len(c.States))
	copy(states, c.States)
	return api.Config{States: states, Lanes: clipped(c.Lanes), Outs: clipped(c.Outs)}
}

// clipped gives the lists in a list of its own, each without its spare room: what is laid behind one of them doesn't go there.
func clipped(lists [][]api.Record) [][]api.Record {
	own := make([][]api.Record, len(lists))
	copy(own, lists)
	for k := range own {
		own[k] = slices.Clip(own[k])
	}
	return own
}
