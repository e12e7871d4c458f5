package shape

import (
	"iter"
	"slices"

	"eddy/api"
)

// regular gives the edges but the back edges.
func regular(p api.Plan) iter.Seq[api.Edge] {
	return func(yield func(api.Edge) bool) {
		for _, e := range p.Edges {
			if !leadsBack(p, e) && !yield(e) {
				return
			}
		}
	}
}

// ways: by task the tasks to which an edge leads from it.
type ways [][]int

func waysOf(p api.Plan, edges iter.Seq[api.Edge]) ways {
	all := make(ways, len(p.Tasks))
	for e := range edges {
		all[e.From] = append(all[e.From], e.To)
	}
	return all
}

// walk gives the tasks that from reaches, with their distances, the nearest first, of those as near the least first. All that changes on the way is made anew each time it is gone through.
func (w ways) walk(from int) iter.Seq2[int, int] {
	return func(yield func(int, int) bool) {
		seen := make([]bool, len(w))
		seen[from] = true
		ring := []int{from}
		for distance := range len(w) {
			for _, task := range ring {
				if !yield(task, distance) {
					return
				}
			}
			ring = w.behind(ring, seen)
		}
	}
}

// behind gives the tasks that are one edge behind those of the ring and haven't been seen, rising; now they have been.
func (w ways) behind(ring []int, seen []bool) []int {
	var next []int
	for _, task := range ring {
		for _, to := range w[task] {
			if !seen[to] {
				seen[to] = true
				next = append(next, to)
			}
		}
	}
	slices.Sort(next)
	return next
}
