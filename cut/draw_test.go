package cut_test

import (
	"fmt"
	"math"
	"strconv"
	"strings"

	"eddy/api"
	"eddy/pen"
)

// A writer draws calls. What it hands in differs from call to call.
type writer struct {
	*pen.Pen
	made int
}

func seeded(seed int) *writer { return &writer{Pen: pen.Seeded(seed)} }

func (w *writer) kind() kind {
	all := kinds(api.MaxPorts)
	return all[w.Below(len(all))]
}

// record draws a record, in some cases one that isn't valid.
func (w *writer) record() api.Record {
	w.made++
	r := w.Record(3)
	r.Key += "/" + strconv.Itoa(w.made)
	switch w.Below(12) {
	case 0:
		r.Key += strings.Repeat(" too long", 4)
	case 1:
		r.Val = api.Value{Kind: pen.One(w.Pen, -1, 4, 99), Int: 7, Text: "both", Items: []api.Value{{Items: []api.Value{{Kind: 17}}}, {}}}
	case 2:
		r.Loops = append(r.Loops, -1, 10, math.MaxInt, 4)
	}
	return r
}

func (w *writer) records(most int) []api.Record {
	var all []api.Record
	for range w.Below(most + 1) {
		all = append(all, w.record())
	}
	return all
}

// state draws a state; of its number and its keys nobody asks whether they are valid.
func (w *writer) state() api.State {
	w.made++
	s := api.State{Num: pen.One(w.Pen, w.made, w.made, -w.made, api.MaxNum+w.made)}
	for range w.Below(4) {
		r := w.record()
		s.Cells = append(s.Cells, api.Cell{Key: r.Key, Vals: append(r.Val.Items, r.Val)})
	}
	return s
}

func (w *writer) port(k kind) int {
	if w.Below(25) == 0 {
		return pen.One(w.Pen, -1, k.ports, k.ports, 4, math.MinInt, math.MaxInt)
	}
	return w.Below(k.ports)
}

// id draws a marker's number: in most cases now's.
func (w *writer) id(now int) int {
	switch w.Below(20) {
	case 0:
		return pen.One(w.Pen, 0, -1, 10000, math.MinInt, math.MaxInt)
	case 1, 2:
		return w.Between(min(1, now), now-1)
	case 3, 4:
		return now + w.Between(1, 3)
	case 5:
		if w.Below(30) == 0 {
			return api.MaxId
		}
	}
	return max(now, 1)
}

// call draws a call of a book of the kind, at which now is now.
func (w *writer) call(k kind, now int) call {
	switch n := w.Below(20); {
	case n < 9:
		return call{What: "took", Port: w.port(k), Rec: w.record()}
	case n < 17:
		return call{What: "mark", Port: w.port(k), Id: w.id(now), Ahead: w.records(3), State: w.state(), Pend: w.records(2)}
	case n < 18:
		return call{What: pen.One(w.Pen, "held", "now"), Port: w.port(k)}
	}
	return call{What: "part"}
}

// lastOf writes the last calls of a script.
func lastOf(script []call) string {
	return fmt.Sprint(len(script), " calls, the last of them ", script[max(0, len(script)-8):])
}
