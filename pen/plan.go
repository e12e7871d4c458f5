package pen

import (
	"slices"
	"strconv"

	"eddy/api"
	"eddy/kinds"
)

// end: an out port that no edge begins at yet.
type end struct{ task, out int }

// draft: a plan on its way: open are the ends that no edge has yet, heads and tails those tasks that have no mate yet. No union has more than mostIns in ports.
type draft struct {
	pen          *Pen
	mostIns      int
	plan         api.Plan
	open         []end
	heads, tails []int
}

// Plan draws a valid plan, of tasks of all kinds.
func (p *Pen) Plan() api.Plan { return p.planOf(3, api.MaxPorts, anyKind) }

// Lean draws a valid plan in which no task has two in ports.
func (p *Pen) Lean() api.Plan { return p.planOf(2, 1, leanKind) }

func anyKind(p *Pen) int {
	return One(p, api.Map, api.Filter, api.Fold, api.Union, api.Union, api.Split, api.Tee, api.Tee, api.Join, api.Join, api.Window, api.Dedup, api.Head, api.Head, api.Tail)
}

func leanKind(p *Pen) int {
	return One(p, api.Map, api.Filter, api.Fold, api.Union, api.Split, api.Tee, api.Window, api.Dedup)
}

// planOf lays tasks one behind the other at ends that are open, then sinks at those that are left, and shuffles all numbers.
func (p *Pen) planOf(sources, mostIns int, kind func(p *Pen) int) api.Plan {
	for {
		d := &draft{pen: p, mostIns: mostIns, plan: api.Plan{Cap: p.Between(1, api.MaxCap)}}
		for range p.Between(1, sources) {
			d.lay(api.Source)
		}
		for range p.Below(10) {
			d.lay(kind(p))
		}
		d.pair()
		for len(d.open) > 0 {
			d.lay(api.Sink)
		}
		if len(d.plan.Tasks) <= api.MaxTasks && len(d.plan.Edges) <= api.MaxEdges {
			return p.Shuffled(d.plan)
		}
	}
}

// lay lays a task at open ends, if there are enough of them. A head's second in port and a tail's first out port stay free for one another.
func (d *draft) lay(kind int) {
	needs, _ := kinds.Of(kind)
	ins, outs := d.pen.Between(needs.Ins.Low, needs.Ins.High), d.pen.Between(needs.Outs.Low, needs.Outs.High)
	switch kind {
	case api.Head:
		ins = 1
	case api.Union:
		ins = min(ins, d.mostIns)
	}
	if len(d.open) < ins {
		return
	}
	task, firstOut := len(d.plan.Tasks), 0
	switch kind {
	case api.Head:
		d.heads = append(d.heads, task)
	case api.Tail:
		firstOut = 1
		d.tails = append(d.tails, task)
	}
	d.plan.Tasks = append(d.plan.Tasks, api.Task{Name: "n" + strconv.Itoa(task), Kind: kind, Num: d.pen.Between(needs.Num.Low, needs.Num.High), Exprs: d.pen.exprs(kind)})
	for in := range ins {
		k := d.pen.Below(len(d.open))
		d.plan.Edges = append(d.plan.Edges, api.Edge{From: d.open[k].task, Out: d.open[k].out, To: task, In: in})
		d.open = slices.Delete(d.open, k, k+1)
	}
	for out := firstOut; out < outs; out++ {
		d.open = append(d.open, end{task, out})
	}
}

// pair makes as many tails as heads, and links them by chance: a head need not reach its tail.
func (d *draft) pair() {
	for len(d.heads) > len(d.tails) {
		d.lay(api.Tail)
	}
	for len(d.tails) > len(d.heads) {
		d.lay(api.Head)
	}
	for k, tail := range d.pen.Order(len(d.tails)) {
		d.plan.Edges = append(d.plan.Edges, api.Edge{From: d.tails[tail], To: d.heads[k], In: 1})
	}
}

// Shuffled gives a plan whose tasks and edges have other numbers.
func (p *Pen) Shuffled(old api.Plan) api.Plan {
	plan := api.Plan{Cap: old.Cap, Tasks: make([]api.Task, len(old.Tasks)), Edges: make([]api.Edge, len(old.Edges))}
	tasks := p.Order(len(plan.Tasks))
	for k, t := range old.Tasks {
		plan.Tasks[tasks[k]] = t
	}
	edges := p.Order(len(plan.Edges))
	for k, e := range old.Edges {
		e.From, e.To = tasks[e.From], tasks[e.To]
		plan.Edges[edges[k]] = e
	}
	return plan
}

// exprs draws the expressions of a task.
func (p *Pen) exprs(kind int) []string {
	switch kind {
	case api.Map:
		return []string{
			One(p, "key", "key", "val", "val%3", "text(val)+key", "hops"),
			One(p, "val", "val+1", "val*2", "[key,val]", "[val,[hops]]", "len(val)", "none"),
		}
	case api.Filter:
		return []string{One(p, "1", "val>1", "val%2", "hops<2", `key<"k2"`, "val")}
	case api.Fold:
		return []string{
			One(p, "0", "none", "[]", "val", "key"),
			One(p, "acc+val", "val", "[acc,val]", "acc+[val]", "max(acc,val)", "acc+1"),
		}
	case api.Split:
		return []string{One(p, "val", "len(key)", "hops", "val+len(key)", "-val")}
	case api.Tail:
		return []string{One(p, "0", "1", "val>3", "hops>1", "val%2")}
	}
	return nil
}
