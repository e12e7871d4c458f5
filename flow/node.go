package flow

import (
	"slices"

	"eddy/api"
	"eddy/fresh"
	"eddy/stage"
	"eddy/value"
)

// node: one task of the plan.
type node struct {
	kind  int
	stage *stage.Stage
	// ins and outs are the numbers of the lanes at its ports.
	ins, outs []int
	// tape is a source's.
	tape []api.Record
	// output is the number of a sink's output.
	output int
}

// nodesOf makes the tasks of a valid plan.
func nodesOf(p api.Plan, sh api.Shape, tapes [][]api.Record) ([]node, api.Errno) {
	nodes := make([]node, len(p.Tasks))
	for task, t := range p.Tasks {
		g, err := stage.New(t, len(sh.Ins[task]), len(sh.Outs[task]))
		if err != api.OK {
			return nil, err
		}
		nodes[task] = node{kind: t.Kind, stage: g, ins: sh.Ins[task], outs: sh.Outs[task]}
	}
	for _, task := range sh.Sources {
		nodes[task].tape = fresh.Records(tapes[p.Tasks[task].Num])
	}
	for output, task := range sh.Sinks {
		nodes[task].output = output
	}
	return nodes, api.OK
}

// ports tells at how many ports the task can step: a source, which has no in port, steps at port 0.
func (n node) ports() int {
	if n.kind == api.Source {
		return 1
	}
	return len(n.ins)
}

// left tells what the task can still take at a port, the next one first: the rest of its tape, or what lies in the lane.
func (n node) left(c *api.Config, e api.Event) []api.Record {
	if n.kind == api.Source {
		return n.tape[c.States[e.Task].Num:]
	}
	return c.Lanes[n.ins[e.Port]]
}

// fits tells whether the task can have a state, with these outputs.
func (n node) fits(s api.State, outs [][]api.Record) bool {
	if n.stage.Legal(s) != api.OK {
		return false
	}
	switch n.kind {
	case api.Source:
		return s.Num <= len(n.tape)
	case api.Sink:
		return s.Num == len(outs[n.output])
	}
	return true
}

// tapesFit tells whether these may be tapes, whoever reads them.
func tapesFit(tapes [][]api.Record) bool {
	if len(tapes) > api.MaxTapes || !allValid(tapes) {
		return false
	}
	wrong := func(tape []api.Record) bool { return len(tape) > api.MaxTape || slices.ContainsFunc(tape, looped) }
	return !slices.ContainsFunc(tapes, wrong)
}

func looped(r api.Record) bool { return len(r.Loops) > 0 }

// sourcesFit tells whether each source has one of so many tapes.
func sourcesFit(p api.Plan, sources []int, tapes int) bool {
	without := func(task int) bool { return p.Tasks[task].Num >= tapes }
	return !slices.ContainsFunc(sources, without)
}

func allValid(lists [][]api.Record) bool {
	wrong := func(r api.Record) bool { return value.CheckRecord(r) != api.OK }
	for _, l := range lists {
		if slices.ContainsFunc(l, wrong) {
			return false
		}
	}
	return true
}
