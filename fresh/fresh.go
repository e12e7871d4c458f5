// Package fresh: copies that share no memory with what they are made of: no list, no spare room behind one, no text.
package fresh

import (
	"strings"

	"eddy/api"
)

// Value copies a value, a valid one or not, field by field.
func Value(v api.Value) api.Value {
	v.Text = strings.Clone(v.Text)
	v.Items = list(v.Items, Value)
	return v
}

// Record copies a record, a valid one or not, field by field.
func Record(r api.Record) api.Record {
	r.Key = strings.Clone(r.Key)
	r.Val = Value(r.Val)
	r.Loops = append([]int(nil), r.Loops...)
	return r
}

// Records copies a list of records.
func Records(l []api.Record) []api.Record { return list(l, Record) }

// State copies a state, a valid one or not, field by field.
func State(s api.State) api.State {
	s.Cells = list(s.Cells, cell)
	return s
}

func cell(c api.Cell) api.Cell {
	c.Key = strings.Clone(c.Key)
	c.Vals = list(c.Vals, Value)
	return c
}

// Part copies what a task hands in, a valid part or not, field by field.
func Part(p api.Part) api.Part {
	return api.Part{State: State(p.State), Logs: list(p.Logs, Records), Pend: Records(p.Pend)}
}

// Delta copies a difference of states, a fit one or not, field by field.
func Delta(d api.Delta) api.Delta {
	d.Set = list(d.Set, cell)
	d.Gone = list(d.Gone, strings.Clone)
	return d
}

// Config copies a configuration, one that fits a plan or not, field by field.
func Config(c api.Config) api.Config {
	return api.Config{States: list(c.States, State), Lanes: list(c.Lanes, Records), Outs: list(c.Outs, Records)}
}

// Plan copies a plan, a valid one or not, field by field.
func Plan(p api.Plan) api.Plan {
	return api.Plan{Cap: p.Cap, Tasks: list(p.Tasks, Task), Edges: append([]api.Edge(nil), p.Edges...)}
}

// Task copies a task, one that a plan may have or not, field by field.
func Task(t api.Task) api.Task {
	t.Name = strings.Clone(t.Name)
	t.Exprs = list(t.Exprs, strings.Clone)
	return t
}

// list copies a list, each item as one copies it; an empty one gives nil, since its spare room is not to be kept.
func list[T any](items []T, one func(T) T) []T {
	if len(items) == 0 {
		return nil
	}
	all := make([]T, len(items))
	for k, item := range items {
		all[k] = one(item)
	}
	return all
}
