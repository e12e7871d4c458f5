package pen

import (
	"slices"
	"strconv"

	"eddy/api"
	"eddy/value"
)

// Value draws a valid value.
func (p *Pen) Value() api.Value {
	for {
		if v := p.anyValue(api.MaxDepth); value.Check(v) == api.OK {
			return v
		}
	}
}

// anyValue draws a value of at most so many lists around one another; it may have too many parts.
func (p *Pen) anyValue(lists int) api.Value {
	switch p.Below(8) {
	case 0:
		return api.Value{}
	case 1:
		return api.Value{Kind: api.Text, Text: One(p, "", "a", "\xff\x00", "twelve bytes", "a text of 24 bytes, just")}
	case 2, 3:
		if lists > 0 {
			return p.listed(lists - 1)
		}
	}
	return api.Value{Kind: api.Int, Int: One(p, int64(0), 1, 2, 3, 4, 5, -1, -4, 1<<63-1, -1<<63)}
}

func (p *Pen) listed(lists int) api.Value {
	v := api.Value{Kind: api.List}
	for range p.Below(4) {
		v.Items = append(v.Items, p.anyValue(lists))
	}
	return v
}

// Key draws a key, in most cases one of so many.
func (p *Pen) Key(keys int) string {
	if p.Below(8) == 0 {
		return One(p, "", "\xff", "twelve bytes")
	}
	return "k" + strconv.Itoa(p.Below(keys))
}

// Record draws a valid record, with one of few keys and with at most so many loop counters.
func (p *Pen) Record(loops int) api.Record {
	r := api.Record{Key: p.Key(4), Val: p.Value()}
	for range p.Below(loops + 1) {
		r.Loops = append(r.Loops, One(p, 0, 0, 1, 2, api.MaxHops))
	}
	return r
}

// Records draws as many records as are wanted.
func (p *Pen) Records(count, loops int) []api.Record {
	var all []api.Record
	for range count {
		all = append(all, p.Record(loops))
	}
	return all
}

// Tapes draws tapes for a plan, each of at most so many records: at least as many tapes as its sources ask for.
func (p *Pen) Tapes(plan api.Plan, most int) [][]api.Record {
	least := 0
	for _, t := range plan.Tasks {
		if t.Kind == api.Source {
			least = max(least, t.Num+1)
		}
	}
	tapes := make([][]api.Record, p.Between(least, api.MaxTapes))
	for k := range tapes {
		tapes[k] = p.Records(p.Below(most+1), 0)
	}
	return tapes
}

// State draws a state that a task can have, a source or a sink with a number of at most num.
func (p *Pen) State(t api.Task, num int) api.State {
	switch t.Kind {
	case api.Source, api.Sink:
		return api.State{Num: p.Between(0, num)}
	case api.Fold, api.Join, api.Dedup:
		return api.State{Cells: p.cells(t)}
	case api.Window:
		// A window of one value keeps none.
		if t.Num > 1 {
			return api.State{Cells: p.cells(t)}
		}
	}
	return api.State{}
}

// cells draws cells of a task, at times as many as there may be.
func (p *Pen) cells(t api.Task) []api.Cell {
	var keys []string
	count := One(p, 0, 1, 1, 2, 3, api.MaxCells)
	for len(keys) < count {
		keys = append(keys, p.Key(4+count*2))
		slices.Sort(keys)
		keys = slices.Compact(keys)
	}
	var all []api.Cell
	for _, key := range keys {
		all = append(all, api.Cell{Key: key, Vals: p.vals(t)})
	}
	return all
}

// vals draws what a cell of a task holds.
func (p *Pen) vals(t api.Task) []api.Value {
	switch t.Kind {
	case api.Fold:
		return []api.Value{p.Value()}
	case api.Join:
		sides := p.Between(1, 3)
		all := []api.Value{{Kind: api.Int, Int: int64(sides)}, p.Value()}
		if sides == 3 {
			all = append(all, p.Value())
		}
		return all
	case api.Window:
		var all []api.Value
		for range p.Between(1, t.Num-1) {
			all = append(all, p.Value())
		}
		return all
	}
	return nil
}

// Config draws a configuration that a plan with these tapes can have, with at most so many records in each lane and output.
func (p *Pen) Config(plan api.Plan, tapes [][]api.Record, most int) api.Config {
	c := api.Config{States: make([]api.State, len(plan.Tasks)), Lanes: make([][]api.Record, len(plan.Edges))}
	for k := range c.Lanes {
		c.Lanes[k] = p.Records(p.Below(most+1), api.MaxLoops)
	}
	for k, t := range plan.Tasks {
		switch t.Kind {
		case api.Source:
			c.States[k] = p.State(t, len(tapes[t.Num]))
		case api.Sink:
			c.States[k] = p.State(t, most)
			c.Outs = append(c.Outs, p.Records(c.States[k].Num, api.MaxLoops))
		default:
			c.States[k] = p.State(t, 0)
		}
	}
	return c
}
