package stage

import (
	"maps"
	"slices"

	"eddy/api"
	"eddy/fresh"
)

// desk: where one record is worked. Its lists are still those that were handed in: nothing is written into them or behind them, and what is answered is copied.
type desk struct {
	num   int
	cells map[string]api.Cell
	port  int
	rec   api.Record
}

func deskOf(s api.State, port int, r api.Record) *desk {
	d := &desk{num: s.Num, cells: make(map[string]api.Cell, len(s.Cells)), port: port, rec: r}
	for _, c := range s.Cells {
		d.cells[c.Key] = c
	}
	return d
}

// state tells the state as it is now, in new memory.
func (d *desk) state() api.State {
	s := api.State{Num: d.num}
	for _, key := range slices.Sorted(maps.Keys(d.cells)) {
		s.Cells = append(s.Cells, d.cells[key])
	}
	return fresh.State(s)
}

// kept gives the values in the cell of the record's key, and whether there is such a cell.
func (d *desk) kept() ([]api.Value, bool) {
	c, ok := d.cells[d.rec.Key]
	return c.Vals, ok
}

// keep lays values into the cell of the record's key, in the place of those in it; false, if it would need a new cell and there is no room for one.
func (d *desk) keep(vals ...api.Value) bool {
	if _, there := d.kept(); !there && len(d.cells) == api.MaxCells {
		return false
	}
	d.cells[d.rec.Key] = api.Cell{Key: d.rec.Key, Vals: vals}
	return true
}

// drop takes the cell of the record's key away, if there is one.
func (d *desk) drop() { delete(d.cells, d.rec.Key) }
