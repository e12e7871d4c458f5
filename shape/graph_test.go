package shape_test

import (
	"slices"
	"testing"

	"eddy/api"
)

// A sketch is a plan and the task or edge that is wrong in it.
type sketch struct {
	why, tasks, edges string
	at                int
}

func wantSketches(t *testing.T, promise string, e api.Errno, all ...sketch) {
	t.Helper()
	for _, s := range all {
		if e == api.OK {
			wantValid(t, promise+": "+s.why, made(1, s.tasks, s.edges))
		} else {
			wantFault(t, promise+": "+s.why, made(1, s.tasks, s.edges), s.at, e)
		}
	}
}

func TestHowManyEdgesATaskHas(t *testing.T) {
	wantSketches(t, "P7.2.6", api.ErrShapePort,
		sketch{"a source alone", "s:source", "", 0},
		sketch{"a sink alone", "k:sink", "", 0},
		sketch{"a sink that nothing leads to", "s:source k:sink l:sink", "s.0>k.0", 2},
		sketch{"a source that nothing begins at", "s:source k:sink r:source", "s.0>k.0", 2},
		sketch{"an edge to a source", "s:source t:tee r:source k:sink", "s.0>t.0 t.0>k.0 t.1>r.0 r.0>k.0", 2},
		sketch{"an edge from a sink", "s:source k:sink l:sink", "s.0>k.0 k.0>l.0", 1},
		sketch{"a sink with two", "s:source r:source k:sink", "s.0>k.0 r.0>k.1", 2},
		sketch{"a source with two", "s:source k:sink l:sink", "s.0>k.0 s.1>l.0", 0},
		sketch{"a join with one", "s:source j:join k:sink", "s.0>j.0 j.0>k.0", 1},
		sketch{"a join with three", "s:source r:source q:source j:join k:sink", "s.0>j.0 r.0>j.1 q.0>j.2 j.0>k.0", 3},
		sketch{"a union with none", "u:union k:sink", "u.0>k.0", 0},
		sketch{"a union with two out ports", "s:source u:union k:sink l:sink", "s.0>u.0 u.0>k.0 u.1>l.0", 1},
		sketch{"a tee with no out port", "s:source t:tee", "s.0>t.0", 1},
		sketch{"a split with no out port", "s:source t:split", "s.0>t.0", 1},
		sketch{"a tee with two in ports", "s:source r:source t:tee k:sink", "s.0>t.0 r.0>t.1 t.0>k.0", 2},
		sketch{"a head without its second in port", "s:source h:head k:sink", "s.0>h.0 h.0>k.0", 1},
		sketch{"a tail without its second out port", "s:source h:head t:tail", "s.0>h.0 h.0>t.0 t.0>h.1", 2},
		sketch{"tasks without any edge", "a:map b:filter c:sink", "", 0},
	)
	wantSketches(t, "P7.2.6", api.OK,
		sketch{"a union with one", "s:source u:union k:sink", "s.0>u.0 u.0>k.0", 0},
		sketch{"a tee with one", "s:source u:tee k:sink", "s.0>u.0 u.0>k.0", 0},
		sketch{"a split with one", "s:source u:split k:sink", "s.0>u.0 u.0>k.0", 0},
		sketch{"a join of one tee", "s:source u:tee j:join k:sink", "s.0>u.0 u.0>j.1 u.1>j.0 j.0>k.0", 0},
		sketch{"the ports' edges in any order", "s:source t:tee u:union k:sink", "t.3>u.1 u.0>k.0 t.1>u.3 t.0>u.0 s.0>t.0 t.2>u.2", 0},
		sketch{"two plans in one", "s:source r:source k:sink l:sink", "s.0>l.0 r.0>k.0", 0},
	)
}

// TestWhichPortsATaskHas: as many edges as there may be, at other ports than those there are.
func TestWhichPortsATaskHas(t *testing.T) {
	wantSketches(t, "P7.2.6", api.ErrShapePort,
		sketch{"an in port left out: sink", "s:source k:sink", "s.0>k.1", 1},
		sketch{"an out port left out: source", "s:source k:sink", "s.1>k.0", 0},
		sketch{"an in port left out: union", "s:source r:source u:union k:sink", "s.0>u.0 r.0>u.2 u.0>k.0", 2},
		sketch{"the first in port left out: union", "s:source r:source u:union k:sink", "s.0>u.1 r.0>u.2 u.0>k.0", 2},
		sketch{"an in port linked twice: union", "s:source r:source u:union k:sink", "s.0>u.0 r.0>u.0 u.0>k.0", 2},
		sketch{"the last in port linked twice: union", "s:source r:source q:source u:union k:sink", "s.0>u.0 r.0>u.2 q.0>u.2 u.0>k.0", 3},
		sketch{"a middle in port linked twice: union", "s:source r:source q:source u:union k:sink", "s.0>u.0 r.0>u.1 q.0>u.1 u.0>k.0", 3},
		sketch{"an in port linked twice: join", "s:source r:source j:join k:sink", "s.0>j.1 r.0>j.1 j.0>k.0", 2},
		sketch{"an in port beyond those there are: join", "s:source r:source j:join k:sink", "s.0>j.0 r.0>j.3 j.0>k.0", 2},
		sketch{"an out port left out: tee", "s:source t:tee k:sink l:sink", "s.0>t.0 t.0>k.0 t.2>l.0", 1},
		sketch{"the first out port left out: tee", "s:source t:tee k:sink l:sink", "s.0>t.0 t.1>k.0 t.2>l.0", 1},
		sketch{"an out port linked twice: tee", "s:source t:tee k:sink l:sink", "s.0>t.0 t.0>k.0 t.0>l.0", 1},
		sketch{"the last out port linked twice: split", "s:source t:split k:sink l:sink m:sink", "s.0>t.0 t.0>k.0 t.2>l.0 t.2>m.0", 1},
		sketch{"a middle out port linked twice: split", "s:source t:split k:sink l:sink m:sink", "s.0>t.0 t.0>k.0 t.1>l.0 t.1>m.0", 1},
		sketch{"an out port linked twice: tail", "s:source h:head t:tail k:sink", "s.0>h.0 h.0>t.0 t.0>h.1 t.0>k.0", 2},
		sketch{"an in port linked twice: head", "s:source h:head t:tail k:sink", "s.0>h.1 h.0>t.0 t.0>h.1 t.1>k.0", 1},
		sketch{"an edge twice", "s:source k:sink", "s.0>k.0 s.0>k.0", 0},
	)
}

// TestEdgesThatMissOrStandTwice: in a plan of each kind, every edge left out, laid twice, and moved to every port.
func TestEdgesThatMissOrStandTwice(t *testing.T) {
	for _, r := range table {
		for _, whole := range []api.Plan{around(r.name, r.inLow, r.outLow), around(r.name, r.inHigh, r.outHigh)} {
			for k, e := range whole.Edges {
				least := min(e.From, e.To)
				wantFault(t, "P7.2.6: an edge left out", turned(whole, func(p *api.Plan) { p.Edges = slices.Delete(p.Edges, k, k+1) }), leastWithout(whole, k), api.ErrShapePort)
				wantFault(t, "P7.2.6: an edge laid twice", turned(whole, func(p *api.Plan) { p.Edges = append(p.Edges, e) }), least, api.ErrShapePort)
				for port := range 4 {
					if port != e.In {
						wantFault(t, "P7.2.6: another in port", turned(whole, func(p *api.Plan) { p.Edges[k].In = port }), e.To, api.ErrShapePort)
					}
					if port != e.Out {
						wantFault(t, "P7.2.6: another out port", turned(whole, func(p *api.Plan) { p.Edges[k].Out = port }), e.From, api.ErrShapePort)
					}
				}
			}
		}
	}
}

// leastWithout tells the least task of which a port isn't linked, if an edge of a valid plan is left out. The last of the ports of a union, a split or a tee may be left out, if it isn't the only one.
func leastWithout(p api.Plan, edge int) int {
	e := p.Edges[edge]
	ins, outs := 0, 0
	for _, o := range p.Edges {
		if o.To == e.To {
			ins++
		}
		if o.From == e.From {
			outs++
		}
	}
	to, _ := rowOf(p.Tasks[e.To].Kind)
	from, _ := rowOf(p.Tasks[e.From].Kind)
	if ins-1 >= to.inLow && e.In == ins-1 {
		return e.From
	}
	if outs-1 >= from.outLow && e.Out == outs-1 {
		return e.To
	}
	return min(e.From, e.To)
}

func TestPairs(t *testing.T) {
	wantSketches(t, "P7.2.7", api.ErrShapePair,
		sketch{"a head's in port 1 from a source", "s:source h:head t:tail k:sink", "s.0>h.1 h.0>t.0 t.0>h.0 t.1>k.0", 0},
		sketch{"the same, the other edge first", "s:source h:head t:tail k:sink", "t.0>h.0 s.0>h.1 h.0>t.0 t.1>k.0", 0},
		sketch{"a head's in port 1 from a tail's out port 1", "s:source h:head t:tail k:sink", "s.0>h.0 h.0>t.0 t.1>h.1 t.0>k.0", 2},
		sketch{"a tail's out port 0 to a sink", "s:source h:head t:tail k:sink", "t.0>k.0 s.0>h.0 h.0>t.0 t.1>h.1", 0},
		sketch{"a head without any tail", "s:source r:source h:head k:sink", "s.0>h.0 r.0>h.1 h.0>k.0", 1},
		sketch{"a tail without any head", "s:source t:tail k:sink l:sink", "s.0>t.0 t.1>l.0 t.0>k.0", 2},
		sketch{"a tail that leads to a head's in port 0", "s:source r:source h:head t:tail k:sink l:sink", "r.0>t.0 t.1>k.0 t.0>h.0 s.0>h.1 h.0>l.0", 2},
		sketch{"a head whose own out port leads to it", "s:source h:head", "s.0>h.0 h.0>h.1", 1},
		sketch{"a tail whose own out port leads to it", "t:tail k:sink", "t.0>t.0 t.1>k.0", 0},
		sketch{"two heads, one tail", "s:source r:source h:head g:head t:tail k:sink", "s.0>h.0 h.0>t.0 t.0>h.1 t.1>g.1 r.0>g.0 g.0>k.0", 3},
		sketch{"a join's in port 1 from a tail's out port 0", "s:source t:tail j:join k:sink", "s.0>t.0 t.0>j.1 t.1>j.0 j.0>k.0", 1},
		sketch{"a head's in port 1 from a tee's out port 0", "s:source t:tee h:head k:sink", "s.0>t.0 t.1>h.0 t.0>h.1 h.0>k.0", 2},
	)
	wantSketches(t, "P7.2.7", api.OK,
		sketch{"a join's in port 1 from a tail's out port 1", "s:source r:source h:head t:tail j:join k:sink", "s.0>h.0 h.0>t.0 t.0>h.1 t.1>j.1 r.0>j.0 j.0>k.0", 0},
		sketch{"a head's in port 0 from a tail's out port 1", "s:source h:head t:tail g:head u:tail k:sink", "s.0>h.0 h.0>t.0 t.0>h.1 t.1>g.0 g.0>u.0 u.0>g.1 u.1>k.0", 0},
		sketch{"a join's in port 1 from a tee's out port 0", "s:source t:tee j:join k:sink", "s.0>t.0 t.1>j.0 t.0>j.1 j.0>k.0", 0},
		sketch{"a tail ahead of its head", "s:source t:tail h:head k:sink", "s.0>t.0 t.0>h.1 t.1>h.0 h.0>k.0", 0},
	)
}

func TestCycles(t *testing.T) {
	wantSketches(t, "P7.2.8", api.ErrShapeCycle,
		sketch{"of one task", "s:source k:sink u:union", "s.0>k.0 u.0>u.0", 2},
		sketch{"of one task beside another way", "s:source k:sink t:tee u:union", "s.0>u.0 u.0>t.0 t.0>k.0 t.1>u.1", 2},
		sketch{"of one tee", "s:source k:sink t:tee", "s.0>k.0 t.0>t.0", 2},
		sketch{"of one map", "s:source k:sink m:map n:map", "s.0>k.0 m.0>m.0 n.0>n.0", 2},
		sketch{"of two tasks", "a:union b:tee", "a.0>b.0 b.0>a.0", 0},
		sketch{"of three tasks", "s:source k:sink c:map a:filter b:fold", "s.0>k.0 a.0>b.0 b.0>c.0 c.0>a.0", 2},
		sketch{"of all but three tasks", "s:source k:sink c:map d:dedup a:filter b:fold e:window f:union g:split h:tee l:union m:map", "s.0>k.0 a.0>b.0 b.0>c.0 c.0>d.0 d.0>e.0 e.0>f.0 f.0>g.0 g.0>h.0 h.0>l.0 l.0>m.0 m.0>a.0", 2},
		sketch{"behind a task with a lesser number", "s:source u:union t:tee k:sink m:map n:map", "s.0>u.0 u.0>t.0 t.0>k.0 t.1>u.1 m.0>n.0 n.0>m.0", 1},
		sketch{"ahead of a sink, whose number is less", "k:sink t:tee u:union", "u.0>t.0 t.0>u.0 t.1>k.0", 1},
		sketch{"behind a source, whose number is less", "s:source u:union", "s.0>u.0 u.0>u.1", 1},
		sketch{"one within another", "s:source k:sink u:union v:union t:tee o:tee", "s.0>u.0 u.0>v.0 v.0>t.0 t.0>v.1 t.1>o.0 o.0>u.1 o.1>k.0", 2},
		sketch{"within a loop", "s:source h:head t:tail k:sink u:union o:tee", "s.0>h.0 h.0>u.0 u.0>o.0 o.0>u.1 o.1>t.0 t.0>h.1 t.1>k.0", 4},
		sketch{"around a loop", "s:source k:sink u:union h:head t:tail o:tee", "s.0>u.0 u.0>h.0 h.0>t.0 t.0>h.1 t.1>o.0 o.0>u.1 o.1>k.0", 2},
		sketch{"through a head's in port 0 and its tail's out port 1", "h:head t:tail", "h.0>t.0 t.0>h.1 t.1>h.0", 0},
		sketch{"a loop whose way out leads into it", "s:source k:sink u:union h:head t:tail", "s.0>k.0 u.0>h.0 h.0>t.0 t.0>h.1 t.1>u.0", 2},
		sketch{"crosswise between two pairs", "h:head t:tail g:head u:tail", "h.0>t.0 g.0>u.0 t.0>g.1 u.0>h.1 t.1>g.0 u.1>h.0", 0},
		sketch{"two cycles that share a task", "s:source k:sink t:tee u:union v:union", "s.0>k.0 t.0>u.0 t.1>u.1 u.0>v.0 v.0>t.0", 2},
		sketch{"a task between two cycles is on none", "s:source x:sink b:dedup t:tee u:union o:tee v:union", "s.0>u.1 u.0>t.0 t.0>u.0 t.1>b.0 b.0>v.0 v.0>o.0 o.0>v.1 o.1>x.0", 3},
	)
	wantSketches(t, "P7.2.8", api.OK,
		sketch{"a loop", "s:source h:head t:tail k:sink", "s.0>h.0 h.0>t.0 t.0>h.1 t.1>k.0", 0},
		sketch{"a loop within a loop", "s:source h:head g:head u:tail t:tail k:sink", "s.0>h.0 h.0>g.0 g.0>u.0 u.0>g.1 u.1>t.0 t.0>h.1 t.1>k.0", 0},
		sketch{"loops that cross", "s:source h:head g:head u:tail t:tail k:sink", "s.0>h.0 h.0>g.0 g.0>u.0 u.0>h.1 u.1>t.0 t.0>g.1 t.1>k.0", 0},
		sketch{"a cycle over two back edges alone", "s:source r:source h:head t:tail g:head u:tail k:sink l:sink", "s.0>h.0 h.0>t.0 t.0>g.1 t.1>k.0 r.0>g.0 g.0>u.0 u.0>h.1 u.1>l.0", 0},
		sketch{"ways that part and meet", "s:source t:tee a:map b:map u:union k:sink", "s.0>t.0 t.0>a.0 t.1>b.0 a.0>u.1 b.0>u.0 u.0>k.0", 0},
		sketch{"a head that doesn't reach its tail", "a:source b:source h:head t:tail k:sink l:sink", "a.0>h.0 b.0>t.0 t.0>h.1 t.1>k.0 h.0>l.0", 0},
	)
}
