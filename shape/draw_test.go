package shape_test

import (
	"math"
	"math/rand"
	"slices"
	"strings"

	"eddy/api"
	"eddy/pen"
)

// A drawer spoils plans by chance, in the same way for the same seed; the plans themselves are drawn by the pen.
type drawer struct {
	*rand.Rand
	pen *pen.Pen
}

func seeded(seed int) drawer {
	return drawer{rand.New(rand.NewSource(int64(seed))), pen.Seeded(seed)}
}

// plan draws a valid plan.
func (d drawer) plan() api.Plan { return d.pen.Plan() }

// between draws a number from low to high.
func (d drawer) between(low, high int) int { return low + d.Intn(high-low+1) }

func (d drawer) of(texts ...string) string { return texts[d.Intn(len(texts))] }

// spoilt gives a copy of a plan, changed at one place or a few; it may be valid still.
func (d drawer) spoilt(p api.Plan) api.Plan {
	p = clone(p)
	for range 1 + d.Intn(3)*d.Intn(2) {
		switch n := d.Intn(12); {
		case n == 0 && len(p.Tasks) > 0:
			d.spoilTask(&p.Tasks[d.Intn(len(p.Tasks))], p)
		case n == 1 && len(p.Edges) > 0:
			d.spoilEdge(&p.Edges[d.Intn(len(p.Edges))], len(p.Tasks))
		case n == 2:
			d.spoilSizes(&p)
		case n > 2 && len(p.Edges) > 0:
			d.crossEdges(&p)
		}
	}
	return p
}

func (d drawer) spoilTask(t *api.Task, p api.Plan) {
	switch d.Intn(4) {
	case 0:
		t.Name = d.of("", "A", "9", "a b", "abcdefghi", "abcdefgh", "x", p.Tasks[d.Intn(len(p.Tasks))].Name)
	case 1:
		t.Kind = d.between(-1, 15)
	case 2:
		t.Num = d.between(-1, 10)
	case 3:
		t.Exprs = slices.Repeat([]string{d.of("val", "1 +", "", "(", strings.Repeat("1", 101))}, d.Intn(4))
	}
}

func (d drawer) spoilEdge(e *api.Edge, tasks int) {
	field := []*int{&e.From, &e.To, &e.Out, &e.In}[d.Intn(4)]
	*field = []int{-1, 0, 1, 2, 3, 4, tasks - 1, tasks, math.MinInt, math.MaxInt}[d.Intn(10)]
}

func (d drawer) spoilSizes(p *api.Plan) {
	switch d.Intn(3) {
	case 0:
		p.Cap = d.between(-1, 10)
	case 1:
		p.Tasks = p.Tasks[:d.Intn(len(p.Tasks)+1)]
	case 2:
		p.Edges = slices.Repeat(p.Edges, d.Intn(4))
	}
}

// crossEdges lets two edges take each other's end or beginning, gives an edge other ports, leaves one out or lays one twice.
func (d drawer) crossEdges(p *api.Plan) {
	a, b := &p.Edges[d.Intn(len(p.Edges))], &p.Edges[d.Intn(len(p.Edges))]
	switch n := d.Intn(10); {
	case n < 4:
		a.To, a.In, b.To, b.In = b.To, b.In, a.To, a.In
	case n < 7:
		a.From, a.Out, b.From, b.Out = b.From, b.Out, a.From, a.Out
	case n == 7:
		a.In, a.Out = d.between(0, 3), d.between(0, 3)
	case n == 8:
		k := d.Intn(len(p.Edges))
		p.Edges = slices.Delete(p.Edges, k, k+1)
	case n == 9:
		p.Edges = append(p.Edges, *a)
	}
}
