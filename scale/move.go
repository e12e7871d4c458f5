package scale

import (
	"eddy/api"
	"eddy/flow"
	"eddy/fresh"
	"eddy/heal"
)

// config gives the configuration of the spread plan that stands for one that fits the plan.
func (s spread) config(old api.Config) api.Config {
	c := fresh.Config(old)
	c.States = byTask(s, c.States, api.State{}, s.shared(c.States[s.task]), api.State{})
	c.Lanes = append(c.Lanes, make([][]api.Record, 2*s.copies)...)
	return c
}

// shared gives by copy what it has of the task's state.
func (s spread) shared(whole api.State) []api.State {
	states := make([]api.State, s.copies)
	for k := range s.copies {
		states[k].Num = whole.Num
	}
	for _, cell := range whole.Cells {
		mine := &states[s.place(cell.Key)]
		mine.Cells = append(mine.Cells, cell)
	}
	return states
}

// events gives what the events of a list, from a configuration that fits on, are in the spread plan; or why the first that can't happen can't.
func (s spread) events(f *flow.Flow, c api.Config, l []api.Event) ([]api.Event, api.Errno) {
	var all []api.Event
	for _, event := range l {
		after, e := f.Step(c, event)
		if e != api.OK {
			return nil, e
		}
		all = append(all, s.eventsOf(event, c, after)...)
		c = after
	}
	return all, api.OK
}

// eventsOf gives what one event is in the spread plan, which led from one configuration to another.
func (s spread) eventsOf(event api.Event, before, after api.Config) []api.Event {
	if event.Task != s.task {
		return []api.Event{event}
	}
	place := s.place(before.Lanes[s.in()][0].Key)
	all := []api.Event{{Task: s.split()}, {Task: s.copyAt(place)}}
	if len(after.Lanes[s.out()]) > len(before.Lanes[s.out()]) {
		all = append(all, api.Event{Task: s.union(), Port: place})
	}
	return all
}

// shot gives the shot of the spread plan that stands for one that fits the plan: what was on its way to the task is on its way to the split.
func (s spread) shot(tapes [][]api.Record, old api.Shot) api.Shot {
	var parts []api.Part
	for _, p := range old.Parts {
		parts = append(parts, fresh.Part(p))
	}
	task := parts[s.task]
	copies := make([]api.Part, s.copies)
	for k, state := range s.shared(task.State) {
		copies[k] = api.Part{State: state, Logs: make([][]api.Record, 1)}
	}
	split := api.Part{Logs: task.Logs}
	union := api.Part{Logs: make([][]api.Record, s.copies)}
	return api.Shot{Id: old.Id, Sum: heal.Sum(s.wide, tapes), Parts: byTask(s, parts, split, copies, union)}
}
