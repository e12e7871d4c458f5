package stage_test

import (
	"eddy/api"
	"eddy/expr"
	"eddy/value"
)

// A model is a second, plain reading of the chapter: cells stand in a list that is gone through from the left, and all is copied by hand.
type model struct {
	task      api.Task
	ins, outs int
}

func (g tried) model() model { return model{g.task, g.ins, g.outs} }

func (m model) counts() bool { return m.task.Kind == api.Source || m.task.Kind == api.Sink }

func (m model) legal(s api.State) api.Errno {
	if e := value.CheckState(s); e != api.OK {
		return e
	}
	if s.Num != 0 && !m.counts() {
		return api.ErrStageState
	}
	for _, c := range s.Cells {
		if !m.legalCell(c.Vals) {
			return api.ErrStageState
		}
	}
	return api.OK
}

func (m model) legalCell(vals []api.Value) bool {
	begins := func(n int64) bool { return len(vals) > 0 && value.Compare(vals[0], num(n)) == 0 }
	switch m.task.Kind {
	case api.Fold:
		return len(vals) == 1
	case api.Join:
		return begins(1) && len(vals) == 2 || begins(2) && len(vals) == 2 || begins(3) && len(vals) == 3
	case api.Window:
		return len(vals) >= 1 && len(vals) <= m.task.Num-1
	case api.Dedup:
		return len(vals) == 0
	}
	return false
}

func (m model) step(s api.State, port int, r api.Record) (api.State, []api.Send, api.Errno) {
	last := m.ins - 1
	if m.task.Kind == api.Source {
		last = 0
	}
	if port < 0 || port > last {
		return api.State{}, nil, api.ErrStagePort
	}
	if e := value.CheckRecord(r); e != api.OK {
		return api.State{}, nil, e
	}
	if e := m.legal(s); e != api.OK {
		return api.State{}, nil, e
	}
	if m.counts() && s.Num == api.MaxNum {
		return api.State{}, nil, api.ErrStageFull
	}
	s, r = copyState(s), copyRecord(r)
	switch m.task.Kind {
	case api.Fold, api.Join, api.Window, api.Dedup:
		return m.keep(s, port, r)
	}
	if m.counts() {
		s.Num++
	}
	return s, m.pass(port, r), api.OK
}

// eval works out expression k.
func (m model) eval(k int, r api.Record, acc api.Value) api.Value {
	v, err := expr.Eval(m.task.Exprs[k], r, acc)
	if err != nil {
		panic(err)
	}
	return v
}

// pass is what the kinds without cells send.
func (m model) pass(port int, r api.Record) []api.Send {
	switch m.task.Kind {
	case api.Map:
		v := m.eval(0, r, none)
		key := value.Print(v)
		if v.Kind == api.Text {
			key = v.Text
		}
		for len(key) > 12 {
			key = key[:len(key)-1]
		}
		return []api.Send{{Rec: api.Record{Key: key, Val: m.eval(1, r, none), Loops: r.Loops}}}
	case api.Filter:
		if !expr.True(m.eval(0, r, none)) {
			return nil
		}
	case api.Split:
		v := m.eval(0, r, none)
		if v.Kind == api.Int {
			return []api.Send{{Out: rest(v.Int, m.outs), Rec: r}}
		}
	case api.Tee:
		var all []api.Send
		for out := 0; out < m.outs; out++ {
			all = append(all, api.Send{Out: out, Rec: copyRecord(r)})
		}
		return all
	case api.Head:
		if port == 0 && len(r.Loops) <= 2 {
			r.Loops = append(r.Loops, 0)
		}
	case api.Tail:
		return m.tail(r)
	case api.Sink:
		return nil
	}
	return []api.Send{{Rec: r}}
}

func (m model) tail(r api.Record) []api.Send {
	again := copyRecord(r)
	if len(again.Loops) == 0 {
		again.Loops = []int{0}
	}
	last := len(again.Loops) - 1
	again.Loops[last]++
	if expr.True(m.eval(0, again, none)) || again.Loops[last] > m.task.Num {
		r.Loops = again.Loops[:last]
		return []api.Send{{Out: 1, Rec: r}}
	}
	return []api.Send{{Out: 0, Rec: again}}
}

// keep is what the kinds with cells do.
func (m model) keep(s api.State, port int, r api.Record) (api.State, []api.Send, api.Errno) {
	at, there := 0, false
	for at < len(s.Cells) && s.Cells[at].Key < r.Key {
		at++
	}
	there = at < len(s.Cells) && s.Cells[at].Key == r.Key
	if !there && len(s.Cells) == 64 && !(m.task.Kind == api.Window && m.task.Num == 1) {
		return s, nil, api.OK
	}
	var old []api.Value
	if there {
		old = s.Cells[at].Vals
		s.Cells = append(s.Cells[:at:at], s.Cells[at+1:]...)
	}
	vals, stays, sent, out := m.cell(old, there, port, r)
	if stays {
		behind := append([]api.Cell{{Key: r.Key, Vals: vals}}, s.Cells[at:]...)
		s.Cells = append(s.Cells[:at:at], behind...)
	}
	if !out {
		return s, nil, api.OK
	}
	if value.Check(sent) != api.OK {
		sent = none
	}
	r.Val = sent
	return s, []api.Send{{Rec: r}}, api.OK
}

// cell tells what the cell holds behind the step, whether it is there then, and the value that goes out, if one does.
func (m model) cell(old []api.Value, there bool, port int, r api.Record) (vals []api.Value, stays bool, sent api.Value, out bool) {
	switch m.task.Kind {
	case api.Fold:
		acc := m.eval(0, r, none)
		if there {
			acc = old[0]
		}
		v := m.eval(1, r, acc)
		return []api.Value{v}, true, v, true
	case api.Join:
		var left, right []api.Value
		if there && old[0].Int == 1 {
			left = old[1:]
		}
		if there && old[0].Int == 2 {
			right = old[1:]
		}
		if there && old[0].Int == 3 {
			left, right = old[1:2], old[2:]
		}
		if port == 0 {
			left = []api.Value{r.Val}
		} else {
			right = []api.Value{r.Val}
		}
		if len(right) == 0 {
			return []api.Value{num(1), left[0]}, true, none, false
		}
		if len(left) == 0 {
			return []api.Value{num(2), right[0]}, true, none, false
		}
		return []api.Value{num(3), left[0], right[0]}, true, list(left[0], right[0]), true
	case api.Window:
		all := append(append([]api.Value{}, old...), r.Val)
		if len(all) == m.task.Num {
			return nil, false, list(all...), true
		}
		return all, true, none, false
	}
	return nil, true, r.Val, !there
}

func copyValue(v api.Value) api.Value {
	var items []api.Value
	for _, item := range v.Items {
		items = append(items, copyValue(item))
	}
	v.Items = items
	return v
}

func copyRecord(r api.Record) api.Record {
	return api.Record{Key: r.Key, Val: copyValue(r.Val), Loops: append([]int(nil), r.Loops...)}
}

func copyState(s api.State) api.State {
	all := api.State{Num: s.Num}
	for _, c := range s.Cells {
		all.Cells = append(all.Cells, api.Cell{Key: c.Key, Vals: copyValue(list(c.Vals...)).Items})
	}
	return all
}
