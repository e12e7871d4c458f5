package shape_test

import (
	"slices"
	"testing"

	"eddy/api"
	"eddy/shape"
)

// TestShapesByHand: what the eye can follow.
func TestShapesByHand(t *testing.T) {
	for _, c := range []struct {
		why, tasks, edges string
		want              api.Shape
	}{
		{
			"tasks and edges whose numbers fall along the way", "k:sink m:map s:source", "m.0>k.0 s.0>m.0",
			api.Shape{Ins: [][]int{{0}, {1}, {}}, Outs: [][]int{{}, {0}, {1}}, Back: []bool{false, false}, Order: []int{2, 1, 0}, Sources: []int{2}, Sinks: []int{0}, Mate: []int{-1, -1, -1}, Depth: []int{2, 1, 0}},
		},
		{
			"edges by their ports, not by their numbers", "s:source t:tee j:join k:sink", "t.1>j.0 j.0>k.0 t.0>j.1 s.0>t.0",
			api.Shape{Ins: [][]int{{}, {3}, {0, 2}, {1}}, Outs: [][]int{{3}, {2, 0}, {1}, {}}, Back: []bool{false, false, false, false}, Order: []int{0, 1, 2, 3}, Sources: []int{0}, Sinks: []int{3}, Mate: []int{-1, -1, -1, -1}, Depth: []int{0, 1, 2, 3}},
		},
		{
			"the longest way, not the shortest nor the last", "s:source t:tee u:union k:sink m:map n:map", "s.0>t.0 t.0>u.1 t.1>m.0 m.0>n.0 n.0>u.0 u.0>k.0",
			api.Shape{Ins: [][]int{{}, {0}, {4, 1}, {5}, {2}, {3}}, Outs: [][]int{{0}, {1, 2}, {5}, {}, {3}, {4}}, Back: make([]bool, 6), Order: []int{0, 1, 4, 5, 2, 3}, Sources: []int{0}, Sinks: []int{3}, Mate: []int{-1, -1, -1, -1, -1, -1}, Depth: []int{0, 1, 4, 5, 2, 3}},
		},
		{
			"several sources and sinks; the least that may stand there, not the nearest", "k:sink s:source l:sink r:source m:map", "r.0>k.0 s.0>m.0 m.0>l.0",
			api.Shape{Ins: [][]int{{0}, {}, {2}, {}, {1}}, Outs: [][]int{{}, {1}, {}, {0}, {2}}, Back: make([]bool, 3), Order: []int{1, 3, 0, 4, 2}, Sources: []int{1, 3}, Sinks: []int{0, 2}, Mate: []int{-1, -1, -1, -1, -1}, Depth: []int{1, 0, 2, 0, 1}},
		},
		{
			"loops that cross: each head's mate is the tail that leads to it", "t:tail h:head g:head s:source u:tail k:sink", "s.0>h.0 h.0>g.0 g.0>u.0 u.0>h.1 u.1>t.0 t.0>g.1 t.1>k.0",
			api.Shape{Ins: [][]int{{4}, {0, 3}, {1, 5}, {}, {2}, {6}}, Outs: [][]int{{5, 6}, {1}, {2}, {0}, {3, 4}, {}}, Back: []bool{false, false, false, true, false, true, false}, Order: []int{3, 1, 2, 4, 0, 5}, Sources: []int{3}, Sinks: []int{5}, Mate: []int{2, 4, 0, -1, 1, -1}, Depth: []int{4, 1, 2, 0, 3, 5}},
		},
		{
			"a head that doesn't reach its tail, ahead of it in the order", "h:head a:source b:source t:tail k:sink l:sink", "a.0>h.0 b.0>t.0 t.0>h.1 t.1>k.0 h.0>l.0",
			api.Shape{Ins: [][]int{{0, 2}, {}, {}, {1}, {3}, {4}}, Outs: [][]int{{4}, {0}, {1}, {2, 3}, {}, {}}, Back: []bool{false, false, true, false, false}, Order: []int{1, 0, 2, 3, 4, 5}, Sources: []int{1, 2}, Sinks: []int{4, 5}, Mate: []int{3, -1, -1, 0, -1, -1}, Depth: []int{1, 0, 0, 1, 2, 2}},
		},
		{
			"a join's in port 1 leads nowhere back", "s:source t:tee j:join k:sink", "s.0>t.0 t.0>j.1 t.1>j.0 j.0>k.0",
			api.Shape{Ins: [][]int{{}, {0}, {2, 1}, {3}}, Outs: [][]int{{0}, {1, 2}, {3}, {}}, Back: make([]bool, 4), Order: []int{0, 1, 2, 3}, Sources: []int{0}, Sinks: []int{3}, Mate: []int{-1, -1, -1, -1}, Depth: []int{0, 1, 2, 3}},
		},
	} {
		if s := wantValid(t, "P7.3: "+c.why, made(4, c.tasks, c.edges)); !same(s, c.want) {
			t.Errorf("P7.3: %s: the shape is\n%s, want\n%s", c.why, text(s), text(c.want))
		}
	}
}

func TestTheDeepestPlan(t *testing.T) {
	s := wantValid(t, "P7.3", chain(12))
	if want := []int{0, 1, 2, 3, 4, 5, 6, 7, 8, 9, 10, 11}; !slices.Equal(s.Depth, want) || !slices.Equal(s.Order, want) {
		t.Errorf("P7.3: of a chain of 12 the depths are %v, the order is %v", s.Depth, s.Order)
	}
	s = wantValid(t, "P7.3", bundles(4, 4, 4, 4, 2))
	if !slices.Equal(s.Depth, []int{0, 1, 2, 3, 4, 5, 6, 7, 8, 9, 10, 11}) || len(s.Back) != 24 {
		t.Errorf("P7.3: of the widest plan the depths are %v, %d edges", s.Depth, len(s.Back))
	}
}

// TestWhatHoldsOfEveryValidPlan: P7.4, over drawn plans, by the shape that Build answers.
func TestWhatHoldsOfEveryValidPlan(t *testing.T) {
	apart := 0
	for seed := range 3000 {
		p := seeded(seed).plan()
		s, at, e := shape.Build(p)
		if at != 0 || e != api.OK {
			t.Fatalf("P7.2: Build of %s answers error %d at %d, want none", drawn(p), e, at)
		}
		if len(s.Sources) == 0 || len(s.Sinks) == 0 {
			t.Errorf("P7.4: %s has the sources %v and the sinks %v", drawn(p), s.Sources, s.Sinks)
		}
		forth, both := distances(p, false), distances(p, true)
		for k := range p.Tasks {
			fed := slices.ContainsFunc(s.Sources, func(source int) bool { return forth[source][k] >= 0 })
			drained := slices.ContainsFunc(s.Sinks, func(sink int) bool { return forth[k][sink] >= 0 })
			if !fed || !drained {
				t.Errorf("P7.4: task %d of %s: reached from a source: %v, reaches a sink: %v", k, drawn(p), fed, drained)
			}
			wantMate(t, p, s, k)
			if p.Tasks[k].Kind == api.Head && both[k][s.Mate[k]] < 0 {
				apart++
			}
		}
		wantShapeOf(t, p, s)
	}
	if apart < 20 {
		t.Errorf("P7.4: only %d heads were drawn that don't reach their tails", apart)
	}
}

func wantMate(t *testing.T, p api.Plan, s api.Shape, task int) {
	t.Helper()
	mate := s.Mate[task]
	switch kind := p.Tasks[task].Kind; {
	case kind != api.Head && kind != api.Tail:
		if mate != -1 {
			t.Errorf("P7.3: task %d of %s has the mate %d", task, drawn(p), mate)
		}
	case mate < 0 || p.Tasks[mate].Kind != api.Head+api.Tail-kind || s.Mate[mate] != task:
		t.Errorf("P7.4: task %d of %s has the mate %d, all mates are %v", task, drawn(p), mate, s.Mate)
	}
}

// wantShapeOf holds each part of a shape against the plan, without reckoning the whole.
func wantShapeOf(t *testing.T, p api.Plan, s api.Shape) {
	t.Helper()
	if len(s.Ins) != len(p.Tasks) || len(s.Outs) != len(p.Tasks) || len(s.Back) != len(p.Edges) || len(s.Order) != len(p.Tasks) || len(s.Mate) != len(p.Tasks) || len(s.Depth) != len(p.Tasks) {
		t.Fatalf("P7.3: lists of another length in the shape of %s: %s", drawn(p), text(s))
	}
	for k, e := range p.Edges {
		if s.Ins[e.To][e.In] != k || s.Outs[e.From][e.Out] != k {
			t.Errorf("P7.3: edge %d of %s isn't where its ports are: %v, %v", k, drawn(p), s.Ins, s.Outs)
		}
		ahead := slices.Index(s.Order, e.From) < slices.Index(s.Order, e.To)
		if !s.Back[k] && (!ahead || s.Depth[e.From] >= s.Depth[e.To]) {
			t.Errorf("P7.3: edge %d of %s against the order %v or the depths %v", k, drawn(p), s.Order, s.Depth)
		}
		if s.Back[k] && (s.Mate[e.From] != e.To || s.Mate[e.To] != e.From) {
			t.Errorf("P7.3: back edge %d of %s, the mates are %v", k, drawn(p), s.Mate)
		}
	}
	for k := range p.Tasks {
		if s.Depth[k] > api.MaxTasks-1 || (s.Depth[k] == 0) != slices.Contains(s.Sources, k) {
			t.Errorf("P7.3: task %d of %s has depth %d, the sources are %v", k, drawn(p), s.Depth[k], s.Sources)
		}
	}
}
