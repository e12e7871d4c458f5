package crew

import (
	"eddy/api"
	"eddy/cut"
	"eddy/lane"
	"eddy/stage"
)

// A worker is what all tasks have.
type worker struct {
	number int
	state  api.State
	stage  *stage.Stage
	book   *cut.Book
	ins    []feed
	outs   []Lane
}

// has tells whether there is such an in port.
func (w *worker) has(port int) bool { return port >= 0 && port < len(w.ins) }

// spent tells whether something is to be sent over an edge that takes no record any more.
func (w *worker) spent(sends []api.Send) bool {
	for _, s := range sends {
		if w.outs[s.Out].Spent() {
			return true
		}
	}
	return false
}

// room tells whether there is room for all that is to be sent.
func (w *worker) room(sends []api.Send) bool {
	for _, s := range sends {
		if w.outs[s.Out].Full() {
			return false
		}
	}
	return true
}

func (w *worker) send(sends []api.Send) {
	for _, s := range sends {
		w.outs[s.Out].Lay(api.Item{Rec: s.Rec})
	}
}

// pass lays a marker at the end of all lanes that begin here.
func (w *worker) pass(id int) {
	for _, l := range w.outs {
		l.Lay(api.Item{Mark: id})
	}
}

// A task is a worker with what a source or a sink alone has.
type task struct {
	worker
	source, sink bool
	output       []api.Record // a sink's
	committed    int          // how many of them, from the first on
}

// reads makes the task a source: it has a tape behind a control lane.
func (t *task) reads(control *lane.Lane, records []api.Record) {
	t.source, t.ins = true, []feed{&tape{control, records, &t.state}}
}

// writes makes the task a sink that has put out some records, all of them committed.
func (t *task) writes(records []api.Record) {
	t.sink, t.output, t.committed = true, records, len(records)
}

// pending gives what was put out and isn't committed; of all tasks but sinks nothing.
func (t *task) pending() []api.Record { return t.output[t.committed:] }

// part gives the part that is done, once. What came from a tape isn't on its way between two tasks: so a source has no logs.
func (t *task) part() (int, api.Part, bool) {
	id, p, ok := t.book.Part()
	if t.source {
		p.Logs = nil
	}
	return id, p, ok
}
