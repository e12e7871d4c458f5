package scale

import (
	"slices"
	"strconv"

	"eddy/api"
	"eddy/flow"
	"eddy/fresh"
	"eddy/shape"
)

// mostBounds: a split has no more out ports, a union no more in ports, than one above it.
const mostBounds = api.MaxPorts - 1

// A spread is a keyed task of a plan, and the plan in which it is spread over copies.
type spread struct {
	plan   api.Plan
	shape  api.Shape
	task   int
	copies int
	place  func(key string) int
	wide   api.Plan
}

// placeBy gives the function that tells a key's place among bounds.
func placeBy(bounds []string) func(key string) int {
	return func(key string) int {
		place := 0
		for _, bound := range bounds {
			if bound <= key {
				place++
			}
		}
		return place
	}
}

// spreadOf spreads a task of a plan, or tells why it can't be.
func spreadOf(p api.Plan, task int, bounds []string) (spread, api.Errno) {
	sh, _, e := shape.Build(p)
	switch {
	case e != api.OK:
		return spread{}, e
	case !isKeyed(p, task):
		return spread{}, api.ErrScaleTask
	case !areBounds(bounds):
		return spread{}, api.ErrScaleBounds
	}
	s := spread{plan: p, shape: sh, task: task, copies: len(bounds) + 1, place: placeBy(bounds)}
	s.wide = api.Plan{Cap: p.Cap, Tasks: s.tasks(choice(bounds)), Edges: s.edges()}
	if _, _, e := shape.Build(s.wide); e != api.OK {
		return spread{}, e
	}
	return s, api.OK
}

// runOf spreads a task, and gives what the plan that isn't spread does with tapes.
func runOf(p api.Plan, tapes [][]api.Record, task int, bounds []string) (spread, *flow.Flow, api.Errno) {
	s, e := spreadOf(p, task, bounds)
	if e != api.OK {
		return spread{}, nil, e
	}
	f, e := flow.New(p, tapes)
	return s, f, e
}

// isKeyed tells whether a task keeps what it keeps by the keys of what comes in at its one port: then copies can keep it apart.
func isKeyed(p api.Plan, task int) bool {
	if task < 0 || task >= len(p.Tasks) {
		return false
	}
	switch p.Tasks[task].Kind {
	case api.Fold, api.Window, api.Dedup:
		return true
	}
	return false
}

func areBounds(bounds []string) bool {
	if len(bounds) == 0 || len(bounds) > mostBounds {
		return false
	}
	for k, bound := range bounds {
		if len(bound) > api.MaxKey || k > 0 && bounds[k-1] >= bound {
			return false
		}
	}
	return len(choice(bounds)) <= api.MaxExpr
}

// The numbers of the new tasks stand behind the old ones; the task itself is the first of the copies.

func (s spread) split() int { return len(s.plan.Tasks) }

func (s spread) union() int { return s.split() + s.copies }

func (s spread) copyAt(place int) int {
	if place == 0 {
		return s.task
	}
	return s.split() + place
}

// in and out are the edges of the old plan at the task's ports.

func (s spread) in() int { return s.shape.Ins[s.task][0] }

func (s spread) out() int { return s.shape.Outs[s.task][0] }

// byTask lays down what there is for each task of the spread plan: of the old tasks as it was, but for the one that is spread.
func byTask[T any](s spread, old []T, split T, copies []T, union T) []T {
	all := slices.Concat(old, []T{split}, copies[1:], []T{union})
	all[s.task] = copies[0]
	return all
}

// tasks gives the tasks of the spread plan, of which the split chooses by an expression.
func (s spread) tasks(choice string) []api.Task {
	names := freeNames(s.plan, s.copies+1)
	copies := make([]api.Task, s.copies)
	for k := range s.copies {
		copies[k] = fresh.Task(s.plan.Tasks[s.task])
		if k > 0 {
			copies[k].Name = names[k]
		}
	}
	split := api.Task{Name: names[0], Kind: api.Split, Exprs: []string{choice}}
	union := api.Task{Name: names[s.copies], Kind: api.Union}
	return byTask(s, fresh.Plan(s.plan).Tasks, split, copies, union)
}

// edges gives the edges of the spread plan.
func (s spread) edges() []api.Edge {
	all := slices.Clone(s.plan.Edges)
	all[s.in()].To = s.split()
	all[s.out()].From = s.union()
	for k := range s.copies {
		all = append(all, api.Edge{From: s.split(), Out: k, To: s.copyAt(k)})
	}
	for k := range s.copies {
		all = append(all, api.Edge{From: s.copyAt(k), To: s.union(), In: k})
	}
	return all
}

// freeNames gives so many names that no task of a plan has.
func freeNames(p api.Plan, count int) []string {
	var all []string
	for k := 0; len(all) < count; k++ {
		if name := "x" + strconv.Itoa(k); taskNamed(p, name) < 0 {
			all = append(all, name)
		}
	}
	return all
}

// taskNamed gives the number of the task of this name; -1, if there is none.
func taskNamed(p api.Plan, name string) int {
	return slices.IndexFunc(p.Tasks, func(t api.Task) bool { return t.Name == name })
}
