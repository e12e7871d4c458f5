package delta_test

import (
	"slices"
	"strings"
	"testing"

	"eddy/api"
	"eddy/fresh"
	"eddy/pen"
)

// A drawer draws states and deltas. It has a list of keys, so that they meet; its length lets states be empty, small, full, or too small for what comes.
type drawer struct {
	*pen.Pen
	keys []string
}

func seeded(seed int) drawer {
	p := pen.Seeded(seed)
	d := drawer{Pen: p}
	count := pen.One(p, 1, 2, 3, 5, 12, 64, 65, 66, 80, 140)
	for len(d.keys) < count {
		for range count {
			d.keys = append(d.keys, d.key())
		}
		slices.Sort(d.keys)
		d.keys = slices.Compact(d.keys)
	}
	d.keys = d.some(d.keys, count)
	return d
}

func (d drawer) key() string {
	b := make([]byte, pen.One(d.Pen, d.Below(3), d.Below(5), 12))
	for k := range b {
		b[k] = pen.One(d.Pen, byte(0), 'a', 'b', 'c', 'z', 0x7e, 0x7f, 0x80, 0xc3, 0xff)
	}
	return string(b)
}

// some draws so many of the keys, or all if there are fewer, rising.
func (d drawer) some(keys []string, count int) []string {
	places := d.Order(len(keys))[:min(count, len(keys))]
	slices.Sort(places)
	var all []string
	for _, k := range places {
		all = append(all, keys[k])
	}
	return all
}

func (d drawer) num() int { return pen.One(d.Pen, 0, 1, 2, api.MaxNum-1, api.MaxNum) }

// vals draws what a cell holds; few kinds of it, so that cells are the same at times.
func (d drawer) vals() []api.Value {
	switch d.Below(6) {
	case 0:
		return nil
	case 1:
		return []api.Value{d.Value(), d.Value()}
	case 2:
		return []api.Value{{Kind: api.List, Items: []api.Value{}}, num(1)}
	case 3:
		return []api.Value{{Kind: api.List}, num(1)}
	}
	return []api.Value{num(int64(d.Below(2)))}
}

func (d drawer) cells(keys []string) []api.Cell {
	var all []api.Cell
	for _, key := range keys {
		all = append(all, api.Cell{Key: key, Vals: d.vals()})
	}
	return all
}

// state draws a valid state.
func (d drawer) state() api.State {
	count := pen.One(d.Pen, 0, 1, 2, 3, 10, 40, 63, 64, 64)
	return api.State{Num: d.num(), Cells: d.cells(d.some(d.keys, count))}
}

// near draws a valid state that is like another one at many places.
func (d drawer) near(s api.State) api.State {
	other := d.state()
	for k, c := range other.Cells {
		if at, there := slices.BinarySearch(keysOf(s.Cells), c.Key); there && d.Below(3) > 0 {
			other.Cells[k] = s.Cells[at]
		}
	}
	return other
}

// delta draws a fit delta for a state with these keys: in most cases it takes none away that isn't there.
func (d drawer) delta(there []string) api.Delta {
	takes, makes, changes, slips := d.Below(11), d.Below(11), d.Below(11), pen.One(d.Pen, 0, 0, 0, 1)
	var set, gone []string
	for _, key := range d.keys {
		_, has := slices.BinarySearch(there, key)
		switch {
		case has && d.Below(10) < takes || !has && d.Below(10) < slips:
			gone = append(gone, key)
		case has && d.Below(10) < changes || !has && d.Below(10) < makes:
			set = append(set, key)
		}
	}
	return api.Delta{Num: d.num(), Set: d.cells(d.some(set, api.MaxCells)), Gone: d.some(gone, api.MaxCells)}
}

// behind gives the keys that are there behind a delta, as far as it can be done.
func behind(there []string, d api.Delta) []string {
	all := slices.Concat(there, keysOf(d.Set))
	all = slices.DeleteFunc(all, func(key string) bool { return slices.Contains(d.Gone, key) })
	slices.Sort(all)
	return slices.Compact(all)
}

// spoiltCells changes cells by one blow; what comes out may be right still.
func (d drawer) spoiltCells(cells []api.Cell) []api.Cell {
	all := fresh.State(api.State{Cells: cells}).Cells
	if len(all) == 0 {
		return celled(counted(0, 65))
	}
	c := &all[d.Below(len(all))]
	switch d.Below(4) {
	case 0:
		c.Key = pen.One(d.Pen, strings.Repeat("\xff", 13), d.key(), all[0].Key)
	case 1:
		c.Vals = make([]api.Value, 7)
	case 2:
		c.Vals = append(c.Vals, pen.One(d.Pen, api.Value{Kind: 4}, list(list(list(list()))), text(strings.Repeat("t", 25)), list(make([]api.Value, 7)...)))
	case 3:
		slices.Reverse(all)
	}
	return all
}

func (d drawer) spoiltKeys(keys []string) []string {
	all := slices.Clone(keys)
	switch d.Below(5) {
	case 0:
		return append(all, d.key())
	case 1:
		return append(all, strings.Repeat("\xff", 13), d.key())
	case 2:
		slices.Reverse(all)
	case 3:
		return counted(0, 65)
	case 4:
		return slices.Insert(all, d.Below(len(all)+1), d.key(), d.key())
	}
	return all
}

// spoilt changes one argument of a call; the call may be right still.
func (d drawer) spoilt(c call) call {
	c.states, c.deltas = slices.Clone(c.states), slices.Clone(c.deltas)
	k := d.Below(len(c.states) + len(c.deltas))
	if k < len(c.states) {
		s := &c.states[k]
		if d.Below(5) == 0 {
			s.Num = pen.One(d.Pen, -1, api.MaxNum+1)
		} else {
			s.Cells = d.spoiltCells(s.Cells)
		}
		return c
	}
	x := &c.deltas[k-len(c.states)]
	switch d.Below(8) {
	case 0:
		x.Num = pen.One(d.Pen, -1, api.MaxNum+1)
	case 1, 2, 3:
		x.Set = d.spoiltCells(x.Set)
	case 4:
		x.Gone = slices.Concat(x.Gone, d.some(keysOf(x.Set), 1))
		slices.Sort(x.Gone)
	default:
		x.Gone = d.spoiltKeys(x.Gone)
	}
	return c
}

// call draws a call, one of right arguments in most cases.
func (d drawer) call() call {
	s := d.state()
	there := keysOf(s.Cells)
	x := d.delta(there)
	c := pen.One(d.Pen, checkOf(x), diffOf(s, d.near(s)), applyOf(s, x), joinOf(x, d.delta(behind(there, x))))
	if d.Below(4) == 0 {
		c = d.spoilt(c)
	}
	return c
}

// TestDrawnCalls: right ones and wrong ones answer as the model does, and all errors are met.
func TestDrawnCalls(t *testing.T) {
	type outcome struct {
		what string
		err  api.Errno
	}
	met := map[outcome]int{}
	for seed := range 30000 {
		c := seeded(seed).call()
		want := c.modelled()
		c.wants(t, "P11", want)
		met[outcome{c.what, want.err}]++
		if t.Failed() {
			return
		}
	}
	for _, what := range []string{"Check", "Diff", "Apply", "Join"} {
		errs := []api.Errno{api.OK, api.ErrValKind, api.ErrValText, api.ErrValItems, api.ErrValDepth, api.ErrValKey, api.ErrValNum, api.ErrValCells}
		if what != "Diff" {
			errs = append(errs, api.ErrDeltaForm, api.ErrDeltaCells)
		}
		if what == "Apply" || what == "Join" {
			errs = append(errs, api.ErrDeltaGone)
		}
		for _, e := range errs {
			if met[outcome{what, e}] < 5 {
				t.Errorf("%s meets error %d %d times", what, e, met[outcome{what, e}])
			}
		}
	}
}

// TestAllShortCalls: all pairs of short deltas, and all short states with all short deltas, right ones and wrong ones.
func TestAllShortCalls(t *testing.T) {
	deltas := shortDeltas()
	for _, d := range deltas {
		for _, s := range smallStates("ab") {
			applyOf(s, d).wants(t, "P11.3", applyOf(s, d).modelled())
		}
		for _, e := range deltas {
			joinOf(d, e).wants(t, "P11.4", joinOf(d, e).modelled())
		}
		if t.Failed() {
			return
		}
	}
	for _, a := range smallStates("abc") {
		for _, b := range smallStates("abc") {
			diffOf(a, b).wants(t, "P11.2", diffOf(a, b).modelled())
		}
	}
}
