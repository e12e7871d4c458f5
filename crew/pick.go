package crew

import "eddy/api"

// A pick is a task that looks at one of its in ports.
type pick struct {
	*Crew
	*task // nil: there is no such task
	port  int
	item  api.Item     // what is taken there
	ahead []api.Record // what stood ahead of a marker, in mode Overtaking
}

// A move is one of the things that a pick may come to.
type move struct {
	fits func(p *pick) bool
	does func(p *pick) int
}

// moves gives all moves. The first that fits is made, so each may lean on those ahead of it.
func moves() [6]move {
	return [...]move{
		{(*pick).nowhere, answers(api.DidNothing)},
		{(*pick).overtaken, (*pick).mark},
		{(*pick).held, answers(api.DidHeld)},
		{(*pick).empty, answers(api.DidEmpty)},
		{(*pick).atMarker, (*pick).markFirst},
		{(*pick).atRecord, (*pick).work},
	}
}

// answers makes a move that changes nothing.
func answers(did int) func(p *pick) int { return func(*pick) int { return did } }

func (p *pick) nowhere() bool { return p.task == nil || !p.has(p.port) }

// overtaken takes a marker out, if there is one and it may overtake: a lane tells of a marker behind records by handing it out, and in no other way.
func (p *pick) overtaken() bool {
	if p.mode != api.Overtaking {
		return false
	}
	p.item.Mark, p.ahead = p.ins[p.port].Pull()
	return p.item.Mark > 0
}

func (p *pick) held() bool { return p.book.Held(p.port) }

// empty looks at what stands first, and keeps it for the moves behind.
func (p *pick) empty() bool {
	x, ok := p.ins[p.port].Peek()
	p.item = x
	return !ok
}

func (p *pick) atMarker() bool { return p.item.Mark > 0 }

func (p *pick) atRecord() bool { return p.item.Mark == 0 }

// markFirst takes the marker that stands first.
func (p *pick) markFirst() int {
	p.ins[p.port].Take()
	return p.mark()
}

// mark lets the task take a marker that has left its lane.
func (p *pick) mark() int {
	id := p.item.Mark
	p.tell(api.Trail{Kind: api.TrailMark, Task: p.number, Port: p.port, Id: id})
	if copied, _ := p.book.Mark(p.port, id, p.ahead, p.state, p.pending()); copied {
		p.tell(api.Trail{Kind: api.TrailCopy, Task: p.number, Id: id})
		p.pass(id)
	}
	if of, part, ok := p.part(); ok {
		// The coordinator drops a part of a snapshot that was given up.
		p.post.Hand(of, p.number, part)
		p.tell(api.Trail{Kind: api.TrailPart, Task: p.number, Id: of})
	}
	return api.DidMark
}

// work lets the task take the record that stands first.
func (p *pick) work() int {
	state, sends, e := p.stage.Step(p.state, p.port, p.item.Rec)
	switch {
	case e != api.OK || p.spent(sends):
		return api.DidHalt
	case !p.room(sends):
		return api.DidBlock
	}
	p.ins[p.port].Take()
	p.state = state
	p.send(sends)
	if p.sink {
		p.output = append(p.output, p.item.Rec)
	}
	p.book.Took(p.port, p.item.Rec)
	p.tell(api.Trail{Kind: api.TrailStep, Task: p.number, Port: p.port})
	return api.DidStep
}
