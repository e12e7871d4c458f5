package stage

import (
	"eddy/api"
	"eddy/expr"
	"eddy/value"
)

// The kinds that keep no cells and know of no loops.
type (
	source struct{}
	mapper struct{ key, val *expr.Code }
	filter struct{ cond *expr.Code }
	union  struct{}
	split  struct {
		cond *expr.Code
		outs int
	}
	tee  struct{ outs int }
	sink struct{}
)

func (source) step(d *desk) []api.Send {
	d.num++
	return sent(0, d.rec)
}

func (m mapper) step(d *desk) []api.Send {
	r := d.rec
	r.Key = keyOf(worth(m.key, d.rec))
	return sentWith(r, worth(m.val, d.rec))
}

// keyOf makes a key of a value.
func keyOf(v api.Value) string {
	key := v.Text
	if v.Kind != api.Text {
		key = value.Print(v)
	}
	return key[:min(len(key), api.MaxKey)]
}

func (f filter) step(d *desk) []api.Send {
	if !expr.True(worth(f.cond, d.rec)) {
		return nil
	}
	return sent(0, d.rec)
}

func (union) step(d *desk) []api.Send { return sent(0, d.rec) }

func (s split) step(d *desk) []api.Send {
	// Of a value that is no int this is 0, and so is the port.
	x := worth(s.cond, d.rec).Int
	outs := int64(s.outs)
	return sent(int((x%outs+outs)%outs), d.rec)
}

func (t tee) step(d *desk) []api.Send {
	sends := make([]api.Send, t.outs)
	for out := range sends {
		sends[out] = api.Send{Out: out, Rec: d.rec}
	}
	return sends
}

func (sink) step(d *desk) []api.Send {
	d.num++
	return nil
}
