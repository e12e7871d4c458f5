package stage

import (
	"slices"

	"eddy/api"
	"eddy/expr"
)

// The two ends of a loop.
type (
	head struct{}
	tail struct {
		cond *expr.Code
		most int
	}
)

func (head) step(d *desk) []api.Send {
	if d.port == 0 && len(d.rec.Loops) < api.MaxLoops {
		return sent(0, counted(d.rec, d.rec.Loops, 0))
	}
	return sent(0, d.rec)
}

func (t tail) step(d *desk) []api.Send {
	outer, count := d.rec.Loops, 1
	if last := len(outer) - 1; last >= 0 {
		outer, count = outer[:last], outer[last]+1
	}
	again := counted(d.rec, outer, count)
	if count <= t.most && !expr.True(worth(t.cond, again)) {
		return sent(0, again)
	}
	done := d.rec
	done.Loops = outer
	return sent(1, done)
}

// counted gives a record with other loop counters: the outer ones, and behind them one more.
func counted(r api.Record, outer []int, count int) api.Record {
	// Behind a list that was handed in nothing may be written.
	r.Loops = slices.Concat(outer, []int{count})
	return r
}
