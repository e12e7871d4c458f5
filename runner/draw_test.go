package runner_test

import (
	"math"
	"slices"

	"eddy/api"
	"eddy/pen"
)

// A writer draws kinds of runners, and calls.
type writer struct{ *pen.Pen }

func seeded(seed int) *writer { return &writer{pen.Seeded(seed)} }

// kind draws a plan with tapes, at its initial configuration or in the middle, where lanes may hold more than their room.
func (w *writer) kind() kind {
	p := pen.One(w.Pen, line(), pair(), loop(), fork(), w.Plan(), w.Plan(), w.Plan(), w.Plan())
	p.Cap = pen.One(w.Pen, 1, 1, 2, 3, api.MaxCap)
	k := kind{plan: p, tapes: w.Tapes(p, pen.One(w.Pen, 2, 20, 40)), mode: w.Between(1, 3), sum: uint32(w.Below(math.MaxUint32))}
	k.next = pen.One(w.Pen, 1, 1, 1, 7, w.Between(1, 9000), w.Between(1, 9000), w.Between(1, 9000), api.MaxId-w.Below(3), api.MaxId+w.Below(2))
	k.start = w.Config(p, k.tapes, pen.One(w.Pen, 0, 0, 1, 3, 10))
	if w.Below(2) == 0 {
		for task, t := range p.Tasks {
			if t.Kind == api.Source {
				k.start.States[task] = api.State{}
			}
		}
	}
	return k
}

// picks gives all picks that a fair round has.
func (m *model) picks() []call {
	var all []call
	for task := range m.plan.Tasks {
		for port := range m.ports(task) {
			all = append(all, picked(task, port))
		}
	}
	return all
}

// busy gives the picks at which something stands, and those of them at which there is a marker.
func (m *model) busy() (all, marked []call) {
	for _, c := range m.picks() {
		items := *m.at(c.Task, c.Port)
		if len(items) > 0 || m.is(c.Task, api.Source) && m.states[c.Task].Num < len(m.tapes[m.plan.Tasks[c.Task].Num]) {
			all = append(all, c)
		}
		if slices.ContainsFunc(items, func(x api.Item) bool { return x.Mark > 0 }) {
			marked = append(marked, c)
		}
	}
	return all, marked
}

// pick draws a pick: in most cases one of a port at which something stands.
func (w *writer) pick(m *model) call {
	all, marked := m.busy()
	switch n := w.Below(30); {
	case n == 0:
		task := pen.One(w.Pen, w.Below(len(m.plan.Tasks)), -1, len(m.plan.Tasks), math.MinInt, math.MaxInt)
		return picked(task, pen.One(w.Pen, -1, 0, 1, 2, 3, 4, math.MinInt, math.MaxInt))
	case n < 8 && len(marked) > 0:
		return marked[w.Below(len(marked))]
	case n > 10 && len(all) > 0:
		return all[w.Below(len(all))]
	}
	all = m.picks()
	return all[w.Below(len(all))]
}

// counts draws what Commit is told.
func (w *writer) counts(m *model) []int {
	var all []int
	for range w.Below(len(m.Config().Outs) + 2) {
		all = append(all, pen.One(w.Pen, w.Below(4), w.Below(12), -1, math.MinInt, math.MaxInt))
	}
	return all
}

// call draws a call of a runner that stands as the model does.
func (w *writer) call(m *model) call {
	switch n := w.Below(100); {
	case n < 3 || n < 12 && m.under() == 0:
		return call{What: "trigger"}
	case n < 20:
		return call{What: "post"}
	// The more tasks there are, the longer a snapshot takes.
	case n < 24 && w.Below(len(m.plan.Tasks)) < 2:
		return call{What: "abort"}
	case n < 26:
		return call{What: "settle", Id: pen.One(w.Pen, m.last(), m.last(), m.last()-1, m.last()+1, m.next, 0, -1, math.MinInt, math.MaxInt), Ok: w.Below(2) == 0}
	case n < 30:
		return call{What: "commit", Counts: w.counts(m)}
	}
	return w.pick(m)
}

// script draws calls, as a runner of the kind answers them.
func (w *writer) script(k kind, count int) []call {
	m := k.model()
	var all []call
	for range count {
		c := w.call(m)
		c.of(m)
		all = append(all, c)
	}
	return all
}
