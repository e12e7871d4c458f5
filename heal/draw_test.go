package heal_test

import (
	"math"
	"slices"

	"eddy/api"
	"eddy/heal"
	"eddy/pen"
)

// A writer draws grounds, and shots for them.
type writer struct{ *pen.Pen }

func seeded(seed int) *writer { return &writer{pen.Seeded(seed)} }

// ground draws a plan with tapes.
func (w *writer) ground() ground {
	if w.Below(4) == 0 {
		all := grounds()
		return all[w.Below(len(all))]
	}
	p := pen.One(w.Pen, w.Plan(), w.Lean())
	return on(p, w.Tapes(p, pen.One(w.Pen, 0, 2, 5, 20, api.MaxTape)))
}

// shot draws a shot that fits.
func (w *writer) shot(g ground, id int) api.Shot {
	s := api.Shot{Id: id, Sum: heal.Sum(g.plan, g.tapes)}
	for number, t := range g.plan.Tasks {
		var p api.Part
		switch t.Kind {
		case api.Source:
			p.State = w.State(t, len(g.tapes[t.Num]))
		case api.Sink:
			p.State = w.State(t, pen.One(w.Pen, 0, 1, 3, 10))
			p.Pend = w.Records(w.Between(0, p.State.Num), api.MaxLoops)
		default:
			p.State = w.State(t, 0)
		}
		for range g.sh.Ins[number] {
			p.Logs = append(p.Logs, w.Records(pen.One(w.Pen, 0, 0, 1, 3), api.MaxLoops))
		}
		s.Parts = append(s.Parts, p)
	}
	return s
}

// outs draws output logs for a shot: as many records as it asks for, more of them, or fewer; and at times a list is missing, or there is one that no sink has.
func (w *writer) outs(g ground, s api.Shot) [][]api.Record {
	var all [][]api.Record
	for _, sink := range g.sh.Sinks {
		n := 0
		if sink < len(s.Parts) {
			n = s.Parts[sink].State.Num - len(s.Parts[sink].Pend)
		}
		n = min(max(n, 0), 20)
		all = append(all, w.Records(n+pen.One(w.Pen, 0, 0, 0, 0, 1, 5, -1, -1*w.Below(n+1)), api.MaxLoops))
	}
	switch w.Below(8) {
	case 0:
		return all[:w.Below(len(all))]
	case 1:
		return append(all, w.Records(2, 0))
	}
	return all
}

// wrongState draws a state that a task can't have.
func (w *writer) wrongState(t api.Task) api.State {
	cell := func(key string, vals ...api.Value) api.Cell { return api.Cell{Key: key, Vals: vals} }
	for {
		s := w.State(t, 1)
		switch w.Below(8) {
		case 0:
			s.Num = pen.One(w.Pen, -1, math.MinInt, api.MaxNum+1, math.MaxInt)
		case 1:
			s.Num = pen.One(w.Pen, 1, api.MaxNum)
		case 2:
			s.Cells = []api.Cell{cell("b", w.Value()), cell("a", w.Value())}
		case 3:
			s.Cells = []api.Cell{cell("a", w.Value()), cell("a", w.Value())}
		case 4:
			s.Cells = []api.Cell{cell("thirteen bytes")}
		case 5:
			s.Cells = []api.Cell{cell("a", api.Value{Kind: 9})}
		case 6:
			s.Cells = []api.Cell{cell("a", slices.Repeat([]api.Value{{Kind: api.Int, Int: int64(w.Below(5))}}, w.Below(8))...)}
		case 7:
			s.Cells = append(s.Cells, cell("zz"))
		}
		if !legal(t, s) {
			return s
		}
	}
}

// wrongRecord draws a record that may not be.
func (w *writer) wrongRecord() api.Record {
	r := w.Record(2)
	switch w.Below(4) {
	case 0:
		r.Key = "thirteen bytes"
	case 1:
		r.Val = pen.One(w.Pen, api.Value{Kind: 4}, api.Value{Kind: api.Int, Text: "a"}, pen.Deep(4), api.Value{Kind: api.List, Items: make([]api.Value, 7)}, api.Value{Kind: api.Text, Text: "a text of 25 bytes, or so."})
	case 2:
		r.Loops = []int{0, 1, 2, 3}
	case 3:
		r.Loops = []int{pen.One(w.Pen, -1, 10, math.MinInt, math.MaxInt)}
	}
	return r
}

// among lays a record at some place of a list.
func (w *writer) among(l []api.Record, r api.Record) []api.Record {
	return slices.Insert(slices.Clone(l), w.Below(len(l)+1), r)
}

// spoil makes a shot wrong at one place, and names it; "nothing", if there is no such place.
func (w *writer) spoil(g ground, s *api.Shot) string {
	if len(s.Parts) == 0 {
		return "nothing"
	}
	n := w.Below(len(s.Parts))
	p := &s.Parts[n]
	var t api.Task
	if n < len(g.plan.Tasks) {
		t = g.plan.Tasks[n]
	}
	switch w.Below(12) {
	case 0:
		s.Sum ^= 1 << w.Below(32)
		return "sum"
	case 1:
		s.Parts = s.Parts[:n]
		return "fewer parts"
	case 2:
		s.Parts = append(s.Parts, api.Part{})
		return "more parts"
	case 3, 4:
		p.State = w.wrongState(t)
		return "state"
	case 5:
		if t.Kind == api.Source {
			p.State.Num = pen.One(w.Pen, len(g.tapes[t.Num])+1, len(g.tapes[t.Num])+1, api.MaxNum)
			return "offset"
		}
	case 6:
		if len(p.Logs) > 0 {
			p.Logs = p.Logs[:w.Below(len(p.Logs))]
			return "fewer logs"
		}
	case 7:
		p.Logs = append(slices.Clone(p.Logs), nil)
		return "more logs"
	case 8:
		if len(p.Logs) > 0 {
			k := w.Below(len(p.Logs))
			p.Logs = slices.Clone(p.Logs)
			p.Logs[k] = w.among(p.Logs[k], w.wrongRecord())
			return "record in a log"
		}
	case 9:
		if len(p.Pend) > 0 {
			p.Pend = slices.Clone(p.Pend)
			p.Pend[w.Below(len(p.Pend))] = w.wrongRecord()
			return "record that is pending"
		}
	case 10:
		if t.Kind != api.Sink {
			p.Pend = w.among(p.Pend, w.Record(2))
			return "pending at another task"
		}
	case 11:
		if t.Kind == api.Sink && p.State.Num < 100 {
			p.Pend = w.Records(max(p.State.Num, 0)+1, 1)
			return "too much pending"
		}
	}
	return "nothing"
}
