package fleet_test

import (
	"bytes"
	"math"
	"slices"

	"eddy/api"
	"eddy/pen"
)

// A writer draws kinds of fleets, and calls.
type writer struct {
	*pen.Pen
	// Forging lets packets be spoilt by more than one flip.
	forging bool
	queue   []call // what is to be called next
}

func seeded(seed int) *writer { return &writer{Pen: pen.Seeded(seed)} }

// places draws a machine for each task: one for all, of two, or of all eight.
func (w *writer) places(tasks int) []int {
	all := make([]int, tasks)
	first, second, count := w.Below(8), w.Below(8), pen.One(w.Pen, 1, 2, 2, 8, 8)
	for task := range all {
		switch count {
		case 1:
			all[task] = first
		case 2:
			all[task] = pen.One(w.Pen, first, second)
		case 8:
			all[task] = w.Below(8)
		}
	}
	return all
}

// kind draws a plan with tapes and machines, at its initial configuration or in the middle, where lanes may hold more than their room.
func (w *writer) kind() kind {
	p := pen.One(w.Pen, line(), pair(), loop(), fork(), w.Plan(), w.Plan(), w.Plan(), w.Plan())
	p.Cap = pen.One(w.Pen, 1, 1, 2, 3, api.MaxCap)
	return w.kindOf(p)
}

// kindOf draws all but the plan.
func (w *writer) kindOf(p api.Plan) kind {
	k := kind{plan: p, tapes: w.Tapes(p, pen.One(w.Pen, 2, 20, 40)), mode: w.Between(1, 3), place: w.places(len(p.Tasks)), sum: uint32(w.Below(math.MaxUint32))}
	k.next = pen.One(w.Pen, 1, 1, 1, 7, w.Between(1, 9000), w.Between(1, 9000), w.Between(1, 9000), api.MaxId-w.Below(3), api.MaxId+w.Below(2))
	k.start = w.Config(p, k.tapes, pen.One(w.Pen, 0, 0, 1, 3, 10))
	if w.Below(2) == 0 {
		for task, t := range p.Tasks {
			if t.Kind == api.Source {
				k.start.States[task] = api.State{}
			}
		}
	}
	return k
}

// picks gives all picks that a fair round has.
func (m *model) picks() []call {
	var all []call
	for task := range m.plan.Tasks {
		for port := range m.ports(task) {
			all = append(all, picked(task, port))
		}
	}
	return all
}

// busy gives the picks at which something stands, and those of them at which there is a marker.
func (m *model) busy() (all, marked []call) {
	for _, c := range m.picks() {
		items := *m.at(c.A, c.B)
		if len(items) > 0 || m.is(c.A, api.Source) && m.states[c.A].Num < len(m.tapes[m.plan.Tasks[c.A].Num]) {
			all = append(all, c)
		}
		if slices.ContainsFunc(items, isMarker) {
			marked = append(marked, c)
		}
	}
	return all, marked
}

// waiting gives the remote edges at whose sending end something isn't answered, or is to be told.
func (m *model) waiting() []int {
	var all []int
	for edge, r := range m.roads {
		if r != nil && (r.answered < len(r.messages) || r.word < r.worked) {
			all = append(all, edge)
		}
	}
	return all
}

// pick draws a pick: in most cases one of a port at which something stands.
func (w *writer) pick(m *model) call {
	all, marked := m.busy()
	switch n := w.Below(30); {
	case n == 0:
		task := pen.One(w.Pen, w.Below(len(m.plan.Tasks)), -1, len(m.plan.Tasks), math.MinInt, math.MaxInt)
		return picked(task, pen.One(w.Pen, -1, 0, 1, 2, 3, 4, math.MinInt, math.MaxInt))
	case n < 10 && len(marked) > 0:
		return marked[w.Below(len(marked))]
	case n > 10 && len(all) > 0:
		return all[w.Below(len(all))]
	}
	all = m.picks()
	return all[w.Below(len(all))]
}

// edge draws an edge: in most cases a remote one that has something to send.
func (w *writer) edge(m *model) int {
	if all := m.waiting(); len(all) > 0 && w.Below(8) > 0 {
		return all[w.Below(len(all))]
	}
	return pen.One(w.Pen, w.Below(len(m.roads)), w.Below(len(m.roads)), w.Below(len(m.roads)), -1, len(m.roads), 23, math.MinInt, math.MaxInt)
}

// packet draws a packet in flight; seldom, one that isn't there.
func (w *writer) packet(m *model) int {
	if w.Below(15) == 0 || len(m.flights) == 0 {
		return pen.One(w.Pen, -1, len(m.flights), len(m.flights)+1, math.MinInt, math.MaxInt)
	}
	return pen.One(w.Pen, 0, 0, len(m.flights)-1, w.Below(len(m.flights)), w.Below(len(m.flights)))
}

// flip draws a flip, of a packet of which none was turned, if bits aren't forged.
func (w *writer) flip(m *model) call {
	at := w.packet(m)
	if !m.has(at) {
		return call{"flip", at, w.Below(9) - 1}
	}
	bits := 8 * len(m.flights[at].Data)
	if m.flights[at].flips > 0 && !w.forging || w.Below(12) == 0 {
		return call{"flip", at, pen.One(w.Pen, -1, bits, bits+1, math.MinInt, math.MaxInt)}
	}
	return call{"flip", at, pen.One(w.Pen, 0, bits-1, w.Below(bits), w.Below(bits))}
}

// twisted draws another letter of the same length; none, if it has another length.
func (w *writer) twisted(l letter) (letter, bool) {
	long := len(l.packet())
	switch w.Below(6) {
	case 0:
		l.lane = pen.One(w.Pen, l.lane+1, l.lane-1, 0, 23)
	case 1:
		l.number += pen.One(w.Pen, 1, 1, 2, -1, 15, 16, 16, 17, 20)
	case 2:
		l.word += pen.One(w.Pen, 1, -1, 3, 100)
	default:
		l.message = w.message(len(l.message))
	}
	if l.lane < 0 || l.number < 0 || l.word < 0 {
		return l, false
	}
	return l, len(l.packet()) == long
}

// message draws a message of so many bytes: a record, a marker, or neither.
func (w *writer) message(long int) []byte {
	for range pen.One(w.Pen, 20, 20, 0) {
		x := api.Item{Rec: w.Record(3)}
		if w.Below(3) == 0 {
			x = api.Item{Mark: pen.One(w.Pen, 1, 2, 3, 127, 128, api.MaxId)}
		}
		if b := messageOf(x); len(b) == long {
			return b
		}
	}
	b := make([]byte, long)
	for k := range b {
		b[k] = byte(pen.One(w.Pen, w.Below(256), 77, 82, 0, 1))
	}
	return b
}

// forgery draws flips that make another letter of a packet in flight.
func (w *writer) forgery(m *model) []call {
	at := w.packet(m)
	if !m.has(at) {
		return nil
	}
	l, ok := letterOf(m.flights[at].Data)
	if !ok {
		return nil
	}
	other, ok := w.twisted(l)
	if !ok || bytes.Equal(other.packet(), m.flights[at].Data) {
		return nil
	}
	var all []call
	for _, bit := range bitsBetween(m.flights[at].Data, other.packet()) {
		all = append(all, call{"flip", at, bit})
	}
	return all
}

// network draws a call of the network: the fewer edges are remote, the less happens there.
func (w *writer) network(m *model) call {
	if w.forging && w.Below(5) == 0 {
		w.queue = w.forgery(m)
	}
	switch n := w.Below(40); {
	case n < 10:
		return call{"tick", w.edge(m), 0}
	case n < 13:
		return call{"copy", w.packet(m), 0}
	case n < 16:
		return call{"drop", w.packet(m), 0}
	case n < 19:
		return w.flip(m)
	}
	return call{"deliver", w.packet(m), 0}
}

// call draws a call of a fleet that stands as the model does.
func (w *writer) call(m *model) call {
	if len(w.queue) > 0 {
		c := w.queue[0]
		w.queue = w.queue[1:]
		return c
	}
	if len(m.remotes()) > 0 && w.Below(5) < 2 {
		return w.network(m)
	}
	switch n := w.Below(100); {
	case n < 3 || n < 12 && m.under() == 0:
		return call{What: "trigger"}
	case n < 20:
		return call{What: "post"}
	// The more tasks there are, the longer a snapshot takes.
	case n < 23 && w.Below(len(m.plan.Tasks)) < 2:
		return call{What: "abort"}
	case n < 26:
		return w.network(m)
	}
	return w.pick(m)
}

// script draws calls, as a fleet of the kind answers them.
func (w *writer) script(k kind, count int) []call {
	m := k.model()
	var all []call
	for range count {
		c := w.call(m)
		c.of(m)
		all = append(all, c)
	}
	w.queue = nil
	return all
}

// length draws how many calls a script of the kind has.
func (w *writer) length(k kind) int { return 60 + 25*len(k.plan.Tasks) }
