package stage

import (
	"slices"

	"eddy/api"
	"eddy/expr"
	"eddy/value"
)

// The kinds that keep cells.
type (
	fold   struct{ first, next *expr.Code }
	join   struct{}
	window struct{ size int }
	dedup  struct{}
)

func (fold) holds(vals []api.Value) bool { return len(vals) == 1 }

func (f fold) step(d *desk) []api.Send {
	var old api.Value
	if vals, there := d.kept(); there {
		old = vals[0]
	} else {
		old = worth(f.first, d.rec)
	}
	val := f.next.Run(d.rec, old)
	if !d.keep(val) {
		return nil
	}
	return sentWith(d.rec, val)
}

func (join) holds(vals []api.Value) bool {
	if len(vals) == 0 {
		return false
	}
	switch vals[0].Int {
	case leftThere, rightThere:
		return len(vals) == 2
	case bothThere:
		return len(vals) == 3
	}
	return false
}

func (join) step(d *desk) []api.Send {
	vals, _ := d.kept()
	s := sidesOf(vals)
	s.lay(d.port, d.rec.Val)
	if !d.keep(s.cell()...) || s.there != bothThere {
		return nil
	}
	return sentWith(d.rec, listOf(s.vals[:]))
}

func (w window) holds(vals []api.Value) bool { return 0 < len(vals) && len(vals) < w.size }

func (w window) step(d *desk) []api.Send {
	vals, _ := d.kept()
	// Behind a list that was handed in nothing may be written.
	vals = slices.Concat(vals, []api.Value{d.rec.Val})
	if len(vals) < w.size {
		d.keep(vals...)
		return nil
	}
	d.drop()
	return sentWith(d.rec, listOf(vals))
}

func (dedup) holds(vals []api.Value) bool { return len(vals) == 0 }

func (dedup) step(d *desk) []api.Send {
	if _, there := d.kept(); there || !d.keep() {
		return nil
	}
	return sent(0, d.rec)
}

// listOf gives the list of values that are valid; none, if it isn't valid itself.
func listOf(vals []api.Value) api.Value {
	v := api.Value{Kind: api.List, Items: vals}
	if value.Check(v) != api.OK {
		return api.Value{}
	}
	return v
}
