package runner

import (
	"eddy/api"
	"eddy/cut"
	"eddy/flow"
	"eddy/fresh"
	"eddy/lane"
	"eddy/shape"
	"eddy/stage"
)

// refusal tells why there can be no such runner.
func refusal(p api.Plan, tapes [][]api.Record, mode int, start api.Config, next int) api.Errno {
	f, e := flow.New(p, tapes)
	switch {
	case e != api.OK:
		return e
	case mode < api.Aligned || mode > api.Overtaking:
		return api.ErrRunMode
	case f.Fits(start) != api.OK:
		return api.ErrFlowFit
	case next < 1 || next > api.MaxId+1:
		return api.ErrRunNext
	}
	return api.OK
}

// A builder makes the pieces of a runner, of a valid plan and one of its configurations. All that it is given fits, so that the layers below refuse nothing of it.
type builder struct {
	plan  api.Plan
	sh    api.Shape
	mode  int
	start api.Config
	lanes []*lane.Lane
}

// built makes a runner, but for its coordinator.
func built(p api.Plan, tapes [][]api.Record, mode int, start api.Config) (*Runner, api.Errno) {
	sh, _, e := shape.Build(p)
	if e != api.OK {
		return nil, e
	}
	b := &builder{plan: p, sh: sh, mode: mode, start: start}
	if b.lanes, e = numbered(len(p.Edges), b.lane); e != api.OK {
		return nil, e
	}
	r := &Runner{mode: mode, lanes: b.lanes}
	if r.tasks, e = numbered(len(p.Tasks), b.task); e != api.OK {
		return nil, e
	}
	for _, number := range sh.Sources {
		control, e := lane.New(0)
		if e != api.OK {
			return nil, e
		}
		r.tasks[number].reads(control, fresh.Records(tapes[p.Tasks[number].Num]))
		r.controls = append(r.controls, control)
	}
	for k, number := range sh.Sinks {
		r.tasks[number].writes(fresh.Records(start.Outs[k]))
		r.sinks = append(r.sinks, r.tasks[number])
	}
	return r, api.OK
}

// numbered makes so many things by their numbers, or tells why one can't be made.
func numbered[T any](count int, one func(number int) (T, api.Errno)) ([]T, api.Errno) {
	all := make([]T, count)
	for number := range all {
		thing, e := one(number)
		if e != api.OK {
			return nil, e
		}
		all[number] = thing
	}
	return all, api.OK
}

// lane makes the lane of an edge.
func (b *builder) lane(edge int) (*lane.Lane, api.Errno) {
	room := b.plan.Cap
	if b.sh.Back[edge] {
		room = 0
	}
	l, e := lane.New(room)
	if e != api.OK {
		return nil, e
	}
	return l, l.Refill(b.start.Lanes[edge])
}

// task makes a task with the lanes at its ports. A source gets its one port, and a sink its output, behind that.
func (b *builder) task(number int) (*task, api.Errno) {
	ins, outs := b.sh.Ins[number], b.sh.Outs[number]
	g, e := stage.New(b.plan.Tasks[number], len(ins), len(outs))
	if e != api.OK {
		return nil, e
	}
	book, e := b.book(number)
	if e != api.OK {
		return nil, e
	}
	t := &task{worker: worker{number: number, state: fresh.State(b.start.States[number]), stage: g, book: book}}
	for _, edge := range ins {
		t.ins = append(t.ins, b.lanes[edge])
	}
	for _, edge := range outs {
		t.outs = append(t.outs, b.lanes[edge])
	}
	return t, api.OK
}

// book makes a task's book; a source has one port, that of its control lane.
func (b *builder) book(number int) (*cut.Book, api.Errno) {
	ports, back := max(len(b.sh.Ins[number]), 1), -1
	if b.plan.Tasks[number].Kind == api.Head {
		back = 1
	}
	return cut.New(b.mode, ports, back)
}
