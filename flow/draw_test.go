package flow_test

import (
	"slices"
	"testing"

	"eddy/api"
	"eddy/pen"
)

// spoilt gives a copy of a configuration, changed at one place; it may fit still.
func spoilt(d *pen.Pen, c api.Config) api.Config {
	c = clone(c)
	switch d.Below(7) {
	case 0:
		c.States[d.Below(len(c.States))].Num = pen.One(d, -1, 0, 1, 2, 3, 64, api.MaxNum, api.MaxNum+1)
	case 1:
		s := &c.States[d.Below(len(c.States))]
		s.Cells = append(s.Cells, api.Cell{Key: pen.One(d, "", "\xff\xff", "k1"), Vals: pen.One(d, nil, []api.Value{val("1")}, []api.Value{val("1"), val("2")})})
	case 2:
		c.Lanes = spoiltLists(d, c.Lanes)
	case 3:
		c.Outs = spoiltLists(d, c.Outs)
	case 4:
		a, b := d.Below(len(c.States)), d.Below(len(c.States))
		c.States[a], c.States[b] = c.States[b], c.States[a]
	case 5:
		k := d.Below(len(c.States))
		c.States = slices.Delete(c.States, k, k+1)
	case 6:
		s := &c.States[d.Below(len(c.States))]
		for k := range s.Cells {
			s.Cells[k].Vals = append(s.Cells[k].Vals, d.Value())
		}
	}
	return c
}

// spoiltLists changes lists of records, not many of them: one list more or less, a record more or less, or one that isn't valid.
func spoiltLists(d *pen.Pen, all [][]api.Record) [][]api.Record {
	k := d.Below(len(all))
	switch d.Below(5) {
	case 0:
		return slices.Delete(all, k, k+1)
	case 1:
		return append(all, nil)
	case 2:
		all[k] = append(all[k], d.Record(3))
	case 3:
		all[k] = all[k][:d.Below(len(all[k])+1)]
	case 4:
		all[k] = slices.Insert(all[k], d.Below(len(all[k])+1), pen.One(d, recs("a=1@0")[0], wrongRecords()...))
	}
	return all
}

// drawn draws a flow and one of its configurations, the initial one in half of the cases.
func drawn(t *testing.T, d *pen.Pen, p api.Plan) (tried, api.Config) {
	t.Helper()
	f := made(t, p, d.Tapes(p, 4))
	if d.Below(2) == 0 {
		return f, f.Start()
	}
	return f, d.Config(p, f.tapes, 3)
}

// draw plays drawn events, at most so many, and gives them.
func (f tried) draw(t *testing.T, d *pen.Pen, c api.Config, most int) ([]api.Event, api.Config) {
	t.Helper()
	var all []api.Event
	for range most {
		l := f.Enabled(c)
		if len(l) == 0 {
			break
		}
		e := l[d.Below(len(l))]
		all, c = append(all, e), f.after(t, c, e)
	}
	return all, c
}
