package cut_test

import (
	"fmt"
	"math"

	"eddy/api"
	"eddy/pen"
)

// A writer draws calls. What it hands in differs from call to call.
type writer struct{ *pen.Wild }

func seeded(seed int) *writer { return &writer{pen.SeededWild(seed)} }

func (w *writer) kind() kind {
	all := kinds(api.MaxPorts)
	return all[w.Below(len(all))]
}

func (w *writer) port(k kind) int {
	if w.Below(25) == 0 {
		return pen.One(w.Pen, -1, k.ports, k.ports, 4, math.MinInt, math.MaxInt)
	}
	return w.Below(k.ports)
}

// id draws a marker's number: in most cases now's.
func (w *writer) id(now int) int {
	switch w.Below(20) {
	case 0:
		return pen.One(w.Pen, 0, -1, 10000, math.MinInt, math.MaxInt)
	case 1, 2:
		return w.Between(min(1, now), now-1)
	case 3, 4:
		return now + w.Between(1, 3)
	case 5:
		if w.Below(30) == 0 {
			return api.MaxId
		}
	}
	return max(now, 1)
}

// call draws a call of a book of the kind, at which now is now.
func (w *writer) call(k kind, now int) call {
	switch n := w.Below(20); {
	case n < 9:
		return call{What: "took", Port: w.port(k), Rec: w.Record()}
	case n < 17:
		return call{What: "mark", Port: w.port(k), Id: w.id(now), Ahead: w.Records(3), State: w.State(), Pend: w.Records(2)}
	case n < 18:
		return call{What: pen.One(w.Pen, "held", "now"), Port: w.port(k)}
	}
	return call{What: "part"}
}

// lastOf writes the last calls of a script.
func lastOf(script []call) string {
	return fmt.Sprint(len(script), " calls, the last of them ", script[max(0, len(script)-8):])
}
