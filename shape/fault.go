package shape

import (
	"slices"

	"eddy/api"
	"eddy/expr"
	"eddy/kinds"
	"eddy/name"
)

// rule: what may be wrong with a task or an edge of a plan. It is asked of the numbers below count, and only where the plan breaks no rule ahead of it.
type rule struct {
	err   api.Errno
	count int
	wrong func(p api.Plan, number int) bool
}

// fault tells the first error of a plan and the number of the task or edge that has it.
func fault(p api.Plan) (int, api.Errno) {
	if !sized(p) {
		return 0, api.ErrShapeSize
	}
	tasks, edges := len(p.Tasks), len(p.Edges)
	for _, r := range []rule{
		{api.ErrShapeName, tasks, wrongName},
		{api.ErrShapeKind, tasks, wrongKind},
		{api.ErrShapeExpr, tasks, wrongExprs},
		{api.ErrShapeEdge, edges, wrongEnds},
		{api.ErrShapePort, tasks, wrongPorts},
		{api.ErrShapePair, edges, unpaired},
		{api.ErrShapeCycle, tasks, onCycle},
	} {
		for number := range r.count {
			if r.wrong(p, number) {
				return number, r.err
			}
		}
	}
	return 0, api.OK
}

func sized(p api.Plan) bool {
	tasks, bound := kinds.Span{Low: 1, High: api.MaxTasks}, kinds.Span{Low: 1, High: api.MaxCap}
	return tasks.Holds(len(p.Tasks)) && len(p.Edges) <= api.MaxEdges && bound.Holds(p.Cap)
}

func wrongName(p api.Plan, task int) bool {
	own := p.Tasks[task].Name
	taken := slices.ContainsFunc(p.Tasks[:task], func(t api.Task) bool { return t.Name == own })
	return taken || !name.Fits(own)
}

func wrongKind(p api.Plan, task int) bool {
	needs, ok := kinds.Of(p.Tasks[task].Kind)
	return !ok || !needs.Num.Holds(p.Tasks[task].Num)
}

func wrongExprs(p api.Plan, task int) bool {
	t := p.Tasks[task]
	needs, _ := kinds.Of(t.Kind)
	return len(t.Exprs) != needs.Exprs || slices.ContainsFunc(t.Exprs, func(text string) bool { return expr.Check(text) != nil })
}

func wrongEnds(p api.Plan, edge int) bool {
	e := p.Edges[edge]
	tasks, ports := kinds.Span{High: len(p.Tasks) - 1}, kinds.Span{High: api.MaxPorts - 1}
	return !tasks.Holds(e.From) || !tasks.Holds(e.To) || !ports.Holds(e.Out) || !ports.Holds(e.In)
}

func wrongPorts(p api.Plan, task int) bool {
	var ins, outs []int
	for _, e := range p.Edges {
		if e.To == task {
			ins = append(ins, e.In)
		}
		if e.From == task {
			outs = append(outs, e.Out)
		}
	}
	needs, _ := kinds.Of(p.Tasks[task].Kind)
	return !needs.Ins.Holds(len(ins)) || !needs.Outs.Holds(len(outs)) || !countUp(ins) || !countUp(outs)
}

// countUp tells whether the ports are 0, 1 and so on, each once, in whatever order. It sorts them.
func countUp(ports []int) bool {
	slices.Sort(ports)
	for k, port := range ports {
		if port != k {
			return false
		}
	}
	return true
}

func unpaired(p api.Plan, edge int) bool {
	e := p.Edges[edge]
	sendsBack := p.Tasks[e.From].Kind == api.Tail && e.Out == 0
	return sendsBack != leadsBack(p, e)
}

// leadsBack tells whether an edge leads to the in port of a head that takes what comes round again.
func leadsBack(p api.Plan, e api.Edge) bool {
	return p.Tasks[e.To].Kind == api.Head && e.In == 1
}

func onCycle(p api.Plan, task int) bool {
	forth := waysOf(p, regular(p))
	for _, next := range forth[task] {
		for met := range forth.walk(next) {
			if met == task {
				return true
			}
		}
	}
	return false
}
