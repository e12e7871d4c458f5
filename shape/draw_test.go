package shape_test

import (
	"math"
	"math/rand"
	"slices"
	"strconv"
	"strings"

	"eddy/api"
)

// A drawer makes plans by chance, the same ones for the same seed.
type drawer struct{ *rand.Rand }

func seeded(seed int) drawer { return drawer{rand.New(rand.NewSource(int64(seed)))} }

// between draws a number from low to high.
func (d drawer) between(low, high int) int { return low + d.Intn(high-low+1) }

func (d drawer) of(texts ...string) string { return texts[d.Intn(len(texts))] }

// An end is an out port that no edge begins at yet.
type end struct{ task, out int }

// A draft is a plan on its way: open are the ends that no edge has yet, heads and tails those that have no mate yet.
type draft struct {
	drawer
	p            api.Plan
	open         []end
	heads, tails []int
}

// plan draws a valid plan: tasks are laid one behind the other at ends that are open, sinks at those that are left, and then all numbers are shuffled.
func (d drawer) plan() api.Plan {
	for {
		w := &draft{drawer: d, p: api.Plan{Cap: d.between(1, 8)}}
		for range d.between(1, 3) {
			w.lay("source")
		}
		for range d.Intn(10) {
			w.lay(d.of("map", "filter", "fold", "union", "union", "split", "tee", "tee", "join", "window", "dedup", "head", "tail", "head"))
		}
		w.pair()
		for len(w.open) > 0 {
			w.lay("sink")
		}
		if len(w.p.Tasks) <= 12 && len(w.p.Edges) <= 24 {
			return w.shuffled()
		}
	}
}

// lay lays a task at open ends, if there are enough of them.
func (w *draft) lay(kind string) {
	r := rowNamed(kind)
	ins, outs := w.between(r.inLow, r.inHigh), w.between(r.outLow, r.outHigh)
	if kind == "head" {
		ins = 1
	}
	if len(w.open) < ins {
		return
	}
	task := len(w.p.Tasks)
	t := api.Task{Name: "n" + strconv.Itoa(task), Kind: r.kind, Num: w.between(r.numLow, r.numHigh)}
	for range r.exprs {
		t.Exprs = append(t.Exprs, w.of("val", "key", "1+2", "if val then 1 else [key, hops]", `"text"`))
	}
	w.p.Tasks = append(w.p.Tasks, t)
	for in := range ins {
		k := w.Intn(len(w.open))
		w.p.Edges = append(w.p.Edges, api.Edge{From: w.open[k].task, Out: w.open[k].out, To: task, In: in})
		w.open = slices.Delete(w.open, k, k+1)
	}
	for out := range outs {
		if kind != "tail" || out == 1 {
			w.open = append(w.open, end{task, out})
		}
	}
	switch kind {
	case "head":
		w.heads = append(w.heads, task)
	case "tail":
		w.tails = append(w.tails, task)
	}
}

// pair makes as many tails as heads, and links them by chance: a head need not reach its tail.
func (w *draft) pair() {
	for len(w.heads) > len(w.tails) {
		w.lay("tail")
	}
	for len(w.tails) > len(w.heads) {
		w.lay("head")
	}
	for k, tail := range w.Perm(len(w.tails)) {
		w.p.Edges = append(w.p.Edges, api.Edge{From: w.tails[tail], Out: 0, To: w.heads[k], In: 1})
	}
}

// shuffled gives tasks and edges other numbers.
func (w *draft) shuffled() api.Plan {
	p := api.Plan{Cap: w.p.Cap, Tasks: make([]api.Task, len(w.p.Tasks)), Edges: slices.Clone(w.p.Edges)}
	numbers := w.Perm(len(p.Tasks))
	for old, number := range numbers {
		p.Tasks[number] = w.p.Tasks[old]
	}
	for k := range p.Edges {
		p.Edges[k].From, p.Edges[k].To = numbers[p.Edges[k].From], numbers[p.Edges[k].To]
	}
	w.Shuffle(len(p.Edges), func(a, b int) { p.Edges[a], p.Edges[b] = p.Edges[b], p.Edges[a] })
	return p
}

// spoilt gives a copy of a plan, changed at one place or a few; it may be valid still.
func (d drawer) spoilt(p api.Plan) api.Plan {
	p = clone(p)
	for range 1 + d.Intn(3)*d.Intn(2) {
		switch n := d.Intn(12); {
		case n == 0 && len(p.Tasks) > 0:
			d.spoilTask(&p.Tasks[d.Intn(len(p.Tasks))], p)
		case n == 1 && len(p.Edges) > 0:
			d.spoilEdge(&p.Edges[d.Intn(len(p.Edges))], len(p.Tasks))
		case n == 2:
			d.spoilSizes(&p)
		case n > 2 && len(p.Edges) > 0:
			d.crossEdges(&p)
		}
	}
	return p
}

func (d drawer) spoilTask(t *api.Task, p api.Plan) {
	switch d.Intn(4) {
	case 0:
		t.Name = d.of("", "A", "9", "a b", "abcdefghi", "abcdefgh", "x", p.Tasks[d.Intn(len(p.Tasks))].Name)
	case 1:
		t.Kind = d.between(-1, 15)
	case 2:
		t.Num = d.between(-1, 10)
	case 3:
		t.Exprs = slices.Repeat([]string{d.of("val", "1 +", "", "(", strings.Repeat("1", 101))}, d.Intn(4))
	}
}

func (d drawer) spoilEdge(e *api.Edge, tasks int) {
	field := []*int{&e.From, &e.To, &e.Out, &e.In}[d.Intn(4)]
	*field = []int{-1, 0, 1, 2, 3, 4, tasks - 1, tasks, math.MinInt, math.MaxInt}[d.Intn(10)]
}

func (d drawer) spoilSizes(p *api.Plan) {
	switch d.Intn(3) {
	case 0:
		p.Cap = d.between(-1, 10)
	case 1:
		p.Tasks = p.Tasks[:d.Intn(len(p.Tasks)+1)]
	case 2:
		p.Edges = slices.Repeat(p.Edges, d.Intn(4))
	}
}

// crossEdges lets two edges take each other's end or beginning, gives an edge other ports, leaves one out or lays one twice.
func (d drawer) crossEdges(p *api.Plan) {
	a, b := &p.Edges[d.Intn(len(p.Edges))], &p.Edges[d.Intn(len(p.Edges))]
	switch n := d.Intn(10); {
	case n < 4:
		a.To, a.In, b.To, b.In = b.To, b.In, a.To, a.In
	case n < 7:
		a.From, a.Out, b.From, b.Out = b.From, b.Out, a.From, a.Out
	case n == 7:
		a.In, a.Out = d.between(0, 3), d.between(0, 3)
	case n == 8:
		k := d.Intn(len(p.Edges))
		p.Edges = slices.Delete(p.Edges, k, k+1)
	case n == 9:
		p.Edges = append(p.Edges, *a)
	}
}
