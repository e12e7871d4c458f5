package heal_test

import (
	"errors"
	"fmt"
	"hash/crc32"
	"strings"

	"eddy/api"
	"eddy/expr"
	"eddy/flow"
	"eddy/value"
	"eddy/vault"
)

// The model is a second, plain reading of the chapter: all that is wrong is listed with its rank, ports are found by going through the edges, and the text is written by the library.

// modelText gives the text of P17.1.
func modelText(p api.Plan, tapes [][]api.Record) string {
	var b strings.Builder
	fmt.Fprintln(&b, "plan", p.Cap)
	for _, t := range p.Tasks {
		fmt.Fprintf(&b, "task %s %d %d\n", t.Name, t.Kind, t.Num)
		for _, x := range t.Exprs {
			canon, _ := expr.Canon(x)
			fmt.Fprintf(&b, "expr %s\n", canon)
		}
	}
	for _, e := range p.Edges {
		fmt.Fprintln(&b, "edge", e.From, e.Out, e.To, e.In)
	}
	for _, tape := range tapes {
		fmt.Fprintln(&b, "tape")
		for _, r := range tape {
			fmt.Fprintln(&b, value.Print(api.Value{Kind: api.Text, Text: r.Key}), value.Print(r.Val))
		}
	}
	return b.String()
}

func modelSum(p api.Plan, tapes [][]api.Record) uint32 {
	return crc32.ChecksumIEEE([]byte(modelText(p, tapes)))
}

// edgesInto counts the edges that lead to a task.
func edgesInto(p api.Plan, task int) int {
	n := 0
	for _, e := range p.Edges {
		if e.To == task {
			n++
		}
	}
	return n
}

// legal is P8.3.
func legal(t api.Task, s api.State) bool {
	if value.CheckState(s) != api.OK {
		return false
	}
	if s.Num != 0 && t.Kind != api.Source && t.Kind != api.Sink {
		return false
	}
	for _, c := range s.Cells {
		if !legalCell(t, c.Vals) {
			return false
		}
	}
	return true
}

func legalCell(t api.Task, vals []api.Value) bool {
	begins := func(n int64) bool {
		return len(vals) > 0 && value.Compare(vals[0], api.Value{Kind: api.Int, Int: n}) == 0
	}
	switch t.Kind {
	case api.Fold:
		return len(vals) == 1
	case api.Join:
		return begins(1) && len(vals) == 2 || begins(2) && len(vals) == 2 || begins(3) && len(vals) == 3
	case api.Window:
		return len(vals) >= 1 && len(vals) <= t.Num-1
	case api.Dedup:
		return len(vals) == 0
	}
	return false
}

// partFaults lists all that is wrong with the part of a task.
func partFaults(p api.Plan, tapes [][]api.Record, task int, part api.Part) map[api.Errno]bool {
	t, all := p.Tasks[task], map[api.Errno]bool{}
	all[api.ErrHealState] = !legal(t, part.State)
	all[api.ErrHealOffset] = t.Kind == api.Source && part.State.Num > len(tapes[t.Num])
	all[api.ErrHealLogs] = len(part.Logs) != edgesInto(p, task)
	for _, l := range append([][]api.Record{part.Pend}, part.Logs...) {
		for _, r := range l {
			if value.CheckRecord(r) != api.OK {
				all[api.ErrHealRecord] = true
			}
		}
	}
	if t.Kind == api.Sink {
		all[api.ErrHealPend] = len(part.Pend) > part.State.Num
	} else {
		all[api.ErrHealPend] = len(part.Pend) > part.State.Num || len(part.Pend) != 0
	}
	return all
}

// modelFits is P17.2; the shape is that of the plan and is found anew.
func modelFits(p api.Plan, _ api.Shape, tapes [][]api.Record, s api.Shot) api.Errno {
	switch {
	case s.Sum != modelSum(p, tapes):
		return api.ErrHealSum
	case len(s.Parts) != len(p.Tasks):
		return api.ErrHealParts
	}
	for task, part := range s.Parts {
		faults := partFaults(p, tapes, task, part)
		// Within a part the errors stand in the order of their numbers.
		for e := api.ErrHealState; e <= api.ErrHealPend; e++ {
			if faults[e] {
				return e
			}
		}
	}
	return api.OK
}

// modelConfig is P17.3.
func modelConfig(p api.Plan, _ api.Shape, s api.Shot, outs [][]api.Record) (api.Config, api.Errno) {
	if len(s.Parts) != len(p.Tasks) {
		return api.Config{}, api.ErrHealParts
	}
	faults := map[api.Errno]bool{}
	c := api.Config{States: make([]api.State, len(p.Tasks)), Lanes: make([][]api.Record, len(p.Edges))}
	for task, part := range s.Parts {
		c.States[task] = part.State
		faults[api.ErrHealLogs] = faults[api.ErrHealLogs] || len(part.Logs) != edgesInto(p, task)
		faults[api.ErrHealPend] = faults[api.ErrHealPend] || len(part.Pend) > part.State.Num
		for port, l := range part.Logs {
			for k, e := range p.Edges {
				if e.To == task && e.In == port {
					c.Lanes[k] = l
				}
			}
		}
		if p.Tasks[task].Kind != api.Sink {
			continue
		}
		var committed, out []api.Record
		if len(c.Outs) < len(outs) {
			committed = outs[len(c.Outs)]
		}
		for n := 0; n < part.State.Num-len(part.Pend); n++ {
			if n == len(committed) {
				faults[api.ErrHealOuts] = true
				break
			}
			out = append(out, committed[n])
		}
		c.Outs = append(c.Outs, append(out, part.Pend...))
	}
	for _, e := range []api.Errno{api.ErrHealLogs, api.ErrHealPend, api.ErrHealOuts} {
		if faults[e] {
			return api.Config{}, e
		}
	}
	return c, api.OK
}

// modelNewest is P17.4 and P17.5: all numbers are looked at, and the greatest that holds is taken; what is told of those below it is dropped.
func modelNewest(v *vault.Vault, p api.Plan, sh api.Shape, tapes, outs [][]api.Record) (api.Found, api.Errno) {
	next := v.Next()
	if next == 0 {
		return api.Found{}, api.ErrDiskDown
	}
	f, _ := flow.New(p, tapes)
	all := api.Found{Config: f.Start()}
	for id := 1; id < next; id++ {
		s, err := v.Load(id)
		var l *api.Lost
		if errors.As(err, &l) {
			if l.Name != fmt.Sprintf("man-%04d", id) || l.Err != api.ErrVaultGone {
				all.Lost = append([]*api.Lost{{Id: id, Name: l.Name, Err: l.Err}}, all.Lost...)
			}
			continue
		}
		e := modelFits(p, sh, tapes, s)
		var c api.Config
		if e == api.OK {
			c, e = modelConfig(p, sh, s, outs)
		}
		if e != api.OK {
			all.Lost = append([]*api.Lost{{Id: id, Err: e}}, all.Lost...)
			continue
		}
		all = api.Found{Id: id, Shot: s, Config: c}
	}
	return all, api.OK
}
