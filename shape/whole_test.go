package shape_test

import (
	"fmt"
	"math"
	"math/rand"
	"slices"
	"strings"
	"testing"

	"eddy/api"
	"eddy/shape"
)

// lists gives all lists of n numbers below most.
func lists(n, most int) [][]int {
	all := [][]int{nil}
	for range n {
		var longer [][]int
		for _, l := range all {
			for k := range most {
				longer = append(longer, append(slices.Clone(l), k))
			}
		}
		all = longer
	}
	return all
}

// TestAllPlansOfOneAndTwoTasks: of all kinds, with all lists of up to two edges between the first two ports.
func TestAllPlansOfOneAndTwoTasks(t *testing.T) {
	valid := 0
	for n := 1; n <= 2; n++ {
		var edges []api.Edge
		for _, e := range lists(4, 2) {
			if e[0] < n && e[1] < n {
				edges = append(edges, api.Edge{From: e[0], To: e[1], Out: e[2], In: e[3]})
			}
		}
		for _, kinds := range lists(n, 13) {
			p := api.Plan{Cap: 1}
			for k, kind := range kinds {
				r := table[kind]
				p.Tasks = append(p.Tasks, api.Task{Name: fmt.Sprintf("t%d", k), Kind: r.kind, Num: r.numHigh, Exprs: slices.Repeat([]string{"1"}, r.exprs)})
			}
			for m := range 3 {
				for _, l := range lists(m, len(edges)) {
					p.Edges = nil
					for _, k := range l {
						p.Edges = append(p.Edges, edges[k])
					}
					if agrees(t, p) {
						valid++
					}
				}
			}
		}
	}
	if valid != 2 {
		t.Errorf("%d plans of one or two tasks are valid, want a source and a sink, in both orders", valid)
	}
}

// links goes through all ways to link out ports with in ports, one edge at each.
func links(outs, ins []api.Edge, look func(edges []api.Edge)) {
	edges := slices.Clone(outs)
	var lay func(k int)
	lay = func(k int) {
		if k == len(outs) {
			look(edges)
			return
		}
		for j := k; j < len(ins); j++ {
			ins[k], ins[j] = ins[j], ins[k]
			edges[k].To, edges[k].In = ins[k].To, ins[k].In
			lay(k + 1)
			ins[k], ins[j] = ins[j], ins[k]
		}
	}
	lay(0)
}

// parts are tasks with so many in ports and out ports.
var parts = []struct {
	kind      string
	ins, outs int
}{
	{"source", 0, 1}, {"filter", 1, 1}, {"union", 2, 1}, {"union", 3, 1}, {"tee", 1, 2}, {"tee", 1, 3}, {"join", 2, 1}, {"head", 2, 1}, {"tail", 1, 2}, {"sink", 1, 0},
}

// assembled gives the parts as tasks, and their ports.
func assembled(list []int) (p api.Plan, outs, ins []api.Edge) {
	words := ""
	for k, part := range list {
		words += fmt.Sprintf(" t%d:%s", k, parts[part].kind)
		for in := range parts[part].ins {
			ins = append(ins, api.Edge{To: k, In: in})
		}
		for out := range parts[part].outs {
			outs = append(outs, api.Edge{From: k, Out: out})
		}
	}
	return made(1, words, ""), outs, ins
}

// TestAllLinksOfFewTasks: all lists of up to four tasks whose ports fit, in all ways to link them, so that nothing but pairs and cycles can be wrong.
func TestAllLinksOfFewTasks(t *testing.T) {
	found := map[api.Errno]int{}
	for n := 1; n <= 4; n++ {
		for _, list := range lists(n, len(parts)) {
			p, outs, ins := assembled(list)
			if len(outs) != len(ins) || len(outs) > 6 {
				continue
			}
			links(outs, ins, func(edges []api.Edge) {
				p.Edges = edges
				if agrees(t, p) && n < 4 {
					agreesOnWays(t, p)
				}
				_, _, e := modelBuild(p)
				found[e]++
			})
			if t.Failed() {
				return
			}
		}
	}
	if len(found) != 3 || found[api.OK] < 400 || found[api.ErrShapePair] < 10000 || found[api.ErrShapeCycle] < 10000 {
		t.Errorf("the plans' errors are %v", found)
	}
}

// TestDrawnLinks: tasks drawn so that their ports fit, in one way to link them.
func TestDrawnLinks(t *testing.T) {
	found := map[api.Errno]int{}
	for seed := range 30000 {
		d := seeded(seed)
		var list []int
		for range d.between(5, 9) {
			list = append(list, d.Intn(len(parts)))
		}
		p, outs, ins := assembled(list)
		for len(outs) > len(ins) && len(list) < 12 {
			list = append(list, len(parts)-1)
			p, outs, ins = assembled(list)
		}
		for len(ins) > len(outs) && len(list) < 12 {
			list = append(list, 0)
			p, outs, ins = assembled(list)
		}
		for k, j := range d.Perm(min(len(ins), len(outs), 24)) {
			p.Edges = append(p.Edges, api.Edge{From: outs[k].From, Out: outs[k].Out, To: ins[j].To, In: ins[j].In})
		}
		agrees(t, p)
		_, _, e := modelBuild(p)
		found[e]++
	}
	if found[api.OK] < 100 || found[api.ErrShapePair] < 1000 || found[api.ErrShapeCycle] < 1000 {
		t.Errorf("the plans' errors are %v", found)
	}
}

// TestDrawnPlans: valid ones against the model, and each spoilt at a place or a few.
func TestDrawnPlans(t *testing.T) {
	found := map[api.Errno]int{}
	kinds := map[int]int{}
	for seed := range 2000 {
		d := seeded(seed)
		p := d.plan()
		if !agrees(t, p) {
			t.Fatalf("%s was drawn as a valid plan", drawn(p))
		}
		agreesOnWays(t, p)
		for _, task := range p.Tasks {
			kinds[task.Kind]++
		}
		for range 12 {
			bad := d.spoilt(p)
			_, _, e := modelBuild(bad)
			found[e]++
			if agrees(t, bad) {
				agreesOnWays(t, bad)
			} else {
				wantNoWay(t, bad, d.between(-1, len(bad.Tasks)))
			}
		}
		if t.Failed() {
			return
		}
	}
	for e := api.ErrShapeSize; e <= api.ErrShapeCycle; e++ {
		if found[e] < 100 {
			t.Errorf("only %d drawn plans have error %d", found[e], e)
		}
	}
	if found[api.OK] < 1000 || len(kinds) != 13 {
		t.Errorf("%d spoilt plans are valid still, %d kinds were drawn", found[api.OK], len(kinds))
	}
}

// TestPlansOfAnything: every call ends, and none panics, whatever it is handed.
func TestPlansOfAnything(t *testing.T) {
	numbers := []int{math.MinInt, -1 << 40, -1, 0, 1, 2, 3, 4, 5, 6, 7, 8, 9, 10, 11, 12, 13, 14, 24, 25, 1 << 40, math.MaxInt}
	for seed := range 5000 {
		r := rand.New(rand.NewSource(int64(seed)))
		any := func() int { return numbers[r.Intn(len(numbers))] }
		p := api.Plan{Cap: any()}
		for range r.Intn(14) {
			task := api.Task{Name: string(rune('a' + r.Intn(26))), Kind: any(), Num: any()}
			for range r.Intn(3) {
				task.Exprs = append(task.Exprs, strings.Repeat("(", r.Intn(200)))
			}
			p.Tasks = append(p.Tasks, task)
		}
		for range r.Intn(26) {
			p.Edges = append(p.Edges, api.Edge{From: any(), Out: any(), To: any(), In: any()})
		}
		agrees(t, p)
		wantNoWay(t, p, any())
		shape.Ports(any())
	}
	long := strings.Repeat("a", 1<<22)
	for _, p := range []api.Plan{
		{Cap: 1, Tasks: slices.Repeat([]api.Task{{Name: long, Kind: api.Tee}}, 12)},
		{Cap: 1, Tasks: []api.Task{{Name: "a", Kind: api.Map, Exprs: []string{long, long}}}},
		{Cap: 1, Tasks: []api.Task{{Name: "a", Kind: api.Map, Exprs: make([]string, 1<<20)}}},
		{Cap: 1, Tasks: []api.Task{{Name: "a", Kind: api.Map, Exprs: slices.Repeat([]string{long}, 1<<10)}}},
		{Cap: 1, Tasks: make([]api.Task, 1<<20), Edges: make([]api.Edge, 1<<20)},
		{Cap: 1, Tasks: chain(12).Tasks, Edges: make([]api.Edge, 1<<20)},
	} {
		if s, at, e := shape.Build(p); at != 0 || e == api.OK || !same(s, api.Shape{}) {
			t.Errorf("P7.7: Build of a plan far beyond the limits answers error %d at %d", e, at)
		}
		wantNoWay(t, p, 0)
	}
}
