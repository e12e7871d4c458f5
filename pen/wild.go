package pen

import (
	"math"
	"strconv"
	"strings"

	"eddy/api"
)

// Wild: a pen that draws things of which nobody asks whether they are valid. No two of its records, of its states or of its parts are the same.
type Wild struct {
	*Pen
	made int
}

// SeededWild gives the wild pen of a seed.
func SeededWild(seed int) *Wild { return &Wild{Pen: Seeded(seed)} }

// Record draws a record, in some cases one that isn't valid.
func (w *Wild) Record() api.Record {
	w.made++
	r := w.Pen.Record(api.MaxLoops)
	r.Key += "/" + strconv.Itoa(w.made)
	switch w.Below(12) {
	case 0:
		r.Key += strings.Repeat(" too long", 4)
	case 1:
		r.Val = api.Value{Kind: One(w.Pen, -1, 4, 99), Int: 7, Text: "both", Items: []api.Value{{Items: []api.Value{{Kind: 17}}}, {}}}
	case 2:
		r.Loops = append(r.Loops, -1, 10, math.MaxInt, 4)
	}
	return r
}

// Records draws at most so many records.
func (w *Wild) Records(most int) []api.Record {
	var all []api.Record
	for range w.Below(most + 1) {
		all = append(all, w.Record())
	}
	return all
}

// State draws a state, in most cases one that isn't valid.
func (w *Wild) State() api.State {
	w.made++
	s := api.State{Num: One(w.Pen, w.made, w.made, -w.made, api.MaxNum+w.made)}
	for range w.Below(4) {
		r := w.Record()
		s.Cells = append(s.Cells, api.Cell{Key: r.Key, Vals: append(r.Val.Items, r.Val)})
	}
	return s
}

// Part draws what a task hands in: a state, at most so many logs, and a pending output.
func (w *Wild) Part(logs int) api.Part {
	p := api.Part{State: w.State(), Pend: w.Records(2)}
	for range w.Below(logs + 1) {
		p.Logs = append(p.Logs, w.Records(3))
	}
	return p
}

// Deep gives a value of so many lists around one another.
func Deep(lists int) api.Value {
	v := api.Value{Kind: api.Int, Int: 7}
	for range lists {
		v = api.Value{Kind: api.List, Items: []api.Value{v}}
	}
	return v
}
