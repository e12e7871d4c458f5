package shape

import (
	"slices"

	"eddy/api"
)

// shapeOf tells the shape of a valid plan.
func shapeOf(p api.Plan) api.Shape {
	tasks := len(p.Tasks)
	s := api.Shape{
		Ins:     make([][]int, tasks),
		Outs:    make([][]int, tasks),
		Order:   order(p),
		Sources: ofKind(p, api.Source),
		Sinks:   ofKind(p, api.Sink),
		Mate:    slices.Repeat([]int{-1}, tasks),
	}
	for number, e := range p.Edges {
		s.Ins[e.To] = laid(s.Ins[e.To], e.In, number)
		s.Outs[e.From] = laid(s.Outs[e.From], e.Out, number)
		back := leadsBack(p, e)
		s.Back = append(s.Back, back)
		if back {
			s.Mate[e.From], s.Mate[e.To] = e.To, e.From
		}
	}
	s.Depth = depths(p, s.Order)
	return s
}

// laid lays an edge's number at its port. The edges of the ports ahead may come later.
func laid(edges []int, port, number int) []int {
	for range port + 1 - len(edges) {
		edges = append(edges, 0)
	}
	edges[port] = number
	return edges
}

func ofKind(p api.Plan, kind int) []int {
	var all []int
	for task, t := range p.Tasks {
		if t.Kind == kind {
			all = append(all, task)
		}
	}
	return all
}

// order tells the tasks so that no regular edge leads to an earlier one: at each place the least that may stand there.
func order(p api.Plan) []int {
	const placed = -1
	// By task, how many regular edges lead to it from tasks that have no place yet.
	waits := make([]int, len(p.Tasks))
	for e := range regular(p) {
		waits[e.To]++
	}
	var all []int
	for range len(p.Tasks) {
		next := slices.Index(waits, 0)
		waits[next] = placed
		all = append(all, next)
		for e := range regular(p) {
			if e.From == next {
				waits[e.To]--
			}
		}
	}
	return all
}

// depths tells by task the edges of the longest way to it. A task's own is known as soon as those ahead of it in the order are.
func depths(p api.Plan, order []int) []int {
	depth := make([]int, len(p.Tasks))
	for _, task := range order {
		for e := range regular(p) {
			if e.From == task {
				depth[e.To] = max(depth[e.To], depth[task]+1)
			}
		}
	}
	return depth
}
