package crew

import (
	"eddy/api"
	"eddy/cut"
	"eddy/flow"
	"eddy/fresh"
	"eddy/lane"
	"eddy/post"
	"eddy/shape"
	"eddy/stage"
)

// Orders: of what a crew is made. Next is the first snapshot's number, Sum what the shots carry; all of Start's outputs count as committed.
type Orders struct {
	Plan  api.Plan
	Tapes [][]api.Record
	Mode  int
	Start api.Config
	Next  int
	Sum   uint32
}

// Refusal tells why there can be no such crew: the errors of P16.1, in their order.
func (o Orders) Refusal() api.Errno {
	f, e := flow.New(o.Plan, o.Tapes)
	switch {
	case e != api.OK:
		return e
	case o.Mode < api.Aligned || o.Mode > api.Overtaking:
		return api.ErrRunMode
	case f.Fits(o.Start) != api.OK:
		return api.ErrFlowFit
	case o.Next < 1 || o.Next > api.MaxId+1:
		return api.ErrRunNext
	}
	return api.OK
}

// A Maker makes the lane of an edge, told by its number, with a bound (0: without one) and with the records that are in it at first.
type Maker func(edge, room int, begun []api.Record) (Lane, api.Errno)

// A builder makes the pieces of a crew, of orders that aren't refused. All that it is given fits, so that the layers below refuse nothing of it.
type builder struct {
	Orders
	sh    api.Shape
	lane  Maker
	lanes []Lane
}

// New makes a crew by orders that aren't refused. The lanes are made from edge 0 on.
func New(o Orders, maker Maker) (*Crew, api.Errno) {
	sh, _, e := shape.Build(o.Plan)
	if e != api.OK {
		return nil, e
	}
	b := &builder{Orders: o, sh: sh, lane: maker}
	if b.lanes, e = numbered(len(o.Plan.Edges), b.laneOf); e != api.OK {
		return nil, e
	}
	c := &Crew{mode: o.Mode, lanes: b.lanes}
	if c.tasks, e = numbered(len(o.Plan.Tasks), b.task); e != api.OK {
		return nil, e
	}
	if e = b.ends(c); e != api.OK {
		return nil, e
	}
	c.post, e = post.New(len(o.Plan.Tasks), o.Next, o.Sum)
	if e != api.OK {
		return nil, e
	}
	return c, api.OK
}

// numbered makes so many things by their numbers, or tells why one can't be made.
func numbered[T any](count int, one func(number int) (T, api.Errno)) ([]T, api.Errno) {
	all := make([]T, count)
	for number := range all {
		thing, e := one(number)
		if e != api.OK {
			return nil, e
		}
		all[number] = thing
	}
	return all, api.OK
}

// laneOf makes the lane of an edge.
func (b *builder) laneOf(edge int) (Lane, api.Errno) {
	room := b.Plan.Cap
	if b.sh.Back[edge] {
		room = 0
	}
	return b.lane(edge, room, b.Start.Lanes[edge])
}

// task makes a task with the lanes at its ports. A source gets its one port, and a sink its output, behind that.
func (b *builder) task(number int) (*task, api.Errno) {
	ins, outs := b.sh.Ins[number], b.sh.Outs[number]
	g, e := stage.New(b.Plan.Tasks[number], len(ins), len(outs))
	if e != api.OK {
		return nil, e
	}
	book, e := b.book(number)
	if e != api.OK {
		return nil, e
	}
	t := &task{worker: worker{number: number, state: fresh.State(b.Start.States[number]), stage: g, book: book}}
	for _, edge := range ins {
		t.ins = append(t.ins, b.lanes[edge])
	}
	for _, edge := range outs {
		t.outs = append(t.outs, b.lanes[edge])
	}
	return t, api.OK
}

// book makes a task's book; a source has one port, that of its control lane.
func (b *builder) book(number int) (*cut.Book, api.Errno) {
	ports, back := max(len(b.sh.Ins[number]), 1), -1
	if b.Plan.Tasks[number].Kind == api.Head {
		back = 1
	}
	return cut.New(b.Mode, ports, back)
}

// ends gives the sources of a crew their tapes, and the sinks what they have put out.
func (b *builder) ends(c *Crew) api.Errno {
	for _, number := range b.sh.Sources {
		control, e := lane.New(0)
		if e != api.OK {
			return e
		}
		c.tasks[number].reads(control, fresh.Records(b.Tapes[b.Plan.Tasks[number].Num]))
		c.controls = append(c.controls, control)
	}
	for k, number := range b.sh.Sinks {
		c.tasks[number].writes(fresh.Records(b.Start.Outs[k]))
		c.sinks = append(c.sinks, c.tasks[number])
	}
	return api.OK
}
