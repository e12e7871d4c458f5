package stage

import (
	"slices"

	"eddy/api"
	"eddy/expr"
)

// operator: one kind of task, with what its task says of it.
type operator interface {
	// step works the record on the desk, changes the state there, and tells what goes out.
	step(d *desk) []api.Send
}

// keeper: an operator that keeps cells.
type keeper interface {
	operator
	// holds tells whether a cell can have these values.
	holds(vals []api.Value) bool
}

func operatorOf(t api.Task, outs int, codes []*expr.Code) operator {
	switch t.Kind {
	case api.Source:
		return source{}
	case api.Map:
		return mapper{key: codes[0], val: codes[1]}
	case api.Filter:
		return filter{cond: codes[0]}
	case api.Fold:
		return fold{first: codes[0], next: codes[1]}
	case api.Union:
		return union{}
	case api.Split:
		return split{cond: codes[0], outs: outs}
	case api.Tee:
		return tee{outs: outs}
	case api.Join:
		return join{}
	case api.Window:
		return window{size: t.Num}
	case api.Dedup:
		return dedup{}
	case api.Head:
		return head{}
	case api.Tail:
		return tail{cond: codes[0], most: t.Num}
	}
	return sink{}
}

// fits tells whether an operator can have a valid state: two kinds count, some keep cells, all others have the empty state alone.
func fits(op operator, s api.State) bool {
	switch op := op.(type) {
	case source, sink:
		return len(s.Cells) == 0
	case keeper:
		strange := func(c api.Cell) bool { return !op.holds(c.Vals) }
		return s.Num == 0 && !slices.ContainsFunc(s.Cells, strange)
	}
	return s.Num == 0 && len(s.Cells) == 0
}

// sent gives the one record that goes out.
func sent(out int, r api.Record) []api.Send { return []api.Send{{Out: out, Rec: r}} }

// sentWith gives the record with another value, at out port 0.
func sentWith(r api.Record, val api.Value) []api.Send {
	r.Val = val
	return sent(0, r)
}

// worth works out an expression for a record, without an acc.
func worth(code *expr.Code, r api.Record) api.Value { return code.Run(r, api.Value{}) }
