package stage_test

import (
	"fmt"
	"math"
	"math/rand"
	"slices"
	"strings"
	"testing"

	"eddy/api"
	"eddy/value"
)

// A drawer draws stages, states and records from a fixed seed.
type drawer struct {
	*rand.Rand
	// keys is how many keys there are.
	keys int
}

func seeded(seed int) *drawer {
	r := rand.New(rand.NewSource(int64(seed)))
	return &drawer{r, []int{2, 3, 6, 20, 90}[r.Intn(5)]}
}

func pick[T any](d *drawer, from ...T) T { return from[d.Intn(len(from))] }

func (d *drawer) expr() string {
	return pick(d, "val", "key", "acc", "hops", "none", "0", "1", "val+1", "acc+val", "acc+[val]", "[val,acc]", "[key,val,hops]", "len(val)", "val%3", "val>0", "hops>2", "hops==1",
		`text(val)+key`, `key+"0123456789ab"`, "if acc==none then[val]else acc+[val]", "[acc,acc]", "sum(acc)", "rev(val)", "at(val,0)", "val*val", "-val", "[[val]]", "kind(val)", `key<"b"`, "max(acc,val)", "1/0", "len(key)-4")
}

// stage draws a task of any kind and its ports.
func (d *drawer) stage(t *testing.T) tried {
	t.Helper()
	return d.stageOf(t, pick(d, rows()...))
}

func (d *drawer) stageOf(t *testing.T, r row) tried {
	t.Helper()
	var exprs []string
	for range r.exprs {
		exprs = append(exprs, d.expr())
	}
	within := func(low, high int) int { return low + d.Intn(high-low+1) }
	return made(t, task(r.kind, within(r.numLow, r.numHigh), exprs...), within(r.inLow, r.inHigh), within(r.outLow, r.outHigh))
}

// keeper draws a task that keeps cells.
func (d *drawer) keeper(t *testing.T) tried {
	t.Helper()
	return d.stageOf(t, rows()[pick(d, api.Fold, api.Join, api.Window, api.Dedup)-1])
}

func (d *drawer) key() string {
	if d.Intn(5) == 0 {
		return pick(d, "\xff", "", "twelve bytes")
	}
	return fmt.Sprintf("k%d", d.Intn(d.keys))
}

// value draws a value; it is valid.
func (d *drawer) value() api.Value {
	for {
		if v := d.anyValue(0); value.Check(v) == api.OK {
			return v
		}
	}
}

func (d *drawer) anyValue(depth int) api.Value {
	switch d.Intn(6) {
	case 0:
		return none
	case 1:
		return text(pick(d, "", "a", "\xff\x00", "twelve bytes!", strings.Repeat("t", 24)))
	case 2, 3:
		return num(pick(d, int64(0), 1, -1, 2, 3, -4, 7, math.MaxInt64, math.MinInt64))
	}
	items := make([]api.Value, d.Intn(7-depth))
	for k := range items {
		items[k] = d.anyValue(depth + 1)
	}
	return list(items...)
}

func (d *drawer) record() api.Record {
	r := api.Record{Key: d.key(), Val: d.value()}
	for range d.Intn(4) {
		r.Loops = append(r.Loops, pick(d, 0, 0, 1, 2, 5, 8, 9))
	}
	return r
}

// spoiltRecord draws a record that isn't valid.
func (d *drawer) spoiltRecord() api.Record {
	for {
		r := d.record()
		switch d.Intn(4) {
		case 0:
			r.Key = strings.Repeat(r.Key, 12)
		case 1:
			r.Loops = append(r.Loops, pick(d, -1, 0, 10))
		case 2:
			r.Val = d.spoiltValue(r.Val)
		case 3:
			r.Val, r.Loops = d.spoiltValue(r.Val), append(r.Loops, -1)
		}
		if value.CheckRecord(r) != api.OK {
			return r
		}
	}
}

func (d *drawer) spoiltValue(v api.Value) api.Value {
	return pick(d, list(v, api.Value{Kind: 7}), list(list(list(list(v)))), api.Value{Kind: v.Kind, Int: 1, Text: "x"}, list(v, text(strings.Repeat("x", 25))), list(slices.Repeat([]api.Value{v}, 7)...), list(v, v, v, v, v, v))
}

// vals draws what a cell of the stage holds.
func (d *drawer) vals(g tried) []api.Value {
	switch g.task.Kind {
	case api.Fold:
		return []api.Value{d.value()}
	case api.Join:
		if d.Intn(2) == 0 {
			return []api.Value{num(3), d.value(), d.value()}
		}
		return []api.Value{num(pick(d, int64(1), 2)), d.value()}
	case api.Window:
		var all []api.Value
		for range 1 + d.Intn(g.task.Num-1) {
			all = append(all, d.value())
		}
		return all
	}
	return nil
}

// legal draws a state that the stage can have.
func (d *drawer) legal(g tried) api.State {
	switch g.task.Kind {
	case api.Source, api.Sink:
		return api.State{Num: pick(d, 0, 1, 5, 64, api.MaxNum-1)}
	case api.Fold, api.Join, api.Window, api.Dedup:
		if g.task.Kind == api.Window && g.task.Num == 1 {
			return api.State{}
		}
		return api.State{Cells: d.cells(g)}
	}
	return api.State{}
}

func (d *drawer) cells(g tried) []api.Cell {
	count := pick(d, 0, 1, 2, 3, 5, 62, 63, 64)
	taken := map[string]bool{}
	for len(taken) < count {
		taken[d.key()] = true
		if d.Intn(4) == 0 {
			taken[fmt.Sprintf("k%d", d.Intn(200))] = true
		}
	}
	var all []api.Cell
	for key := range taken {
		all = append(all, api.Cell{Key: key})
	}
	slices.SortFunc(all, func(a, b api.Cell) int { return strings.Compare(a.Key, b.Key) })
	all = all[:min(len(all), api.MaxCells)]
	for k := range all {
		all[k].Vals = d.vals(g)
	}
	return all
}

// spoilt changes a state by one blow; what comes out may be legal still.
func (d *drawer) spoilt(s api.State) api.State {
	s = copyState(s)
	switch d.Intn(6) {
	case 0:
		s.Num = pick(d, -1, 1, api.MaxNum, api.MaxNum+1)
	case 1:
		s.Cells = append(s.Cells, api.Cell{Key: pick(d, "\xff\xff", "a", strings.Repeat("\xff", 13)), Vals: []api.Value{num(1), num(2)}})
	case 2:
		s.Num, s.Cells = api.MaxNum, cells(1)
	default:
		if len(s.Cells) == 0 {
			s.Cells = cells(1+d.Intn(2), make([]api.Value, d.Intn(8))...)
			break
		}
		c := &s.Cells[d.Intn(len(s.Cells))]
		switch d.Intn(5) {
		case 0:
			c.Vals = append(c.Vals, num(1))
		case 1:
			c.Vals = c.Vals[:max(len(c.Vals), 1)-1]
		case 2:
			c.Vals = append([]api.Value{num(int64(d.Intn(5)))}, c.Vals...)
		case 3:
			c.Key = d.key()
		case 4:
			c.Vals = append(c.Vals, d.spoiltValue(none))
		}
	}
	return s
}
