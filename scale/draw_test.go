package scale_test

import (
	"slices"
	"testing"

	"eddy/api"
	"eddy/engine"
	"eddy/heal"
	"eddy/pen"
	"eddy/plan"
	"eddy/scale"
)

// A writer draws grounds, bounds, configurations, events and shots of them, and steps for engines.
type writer struct{ *pen.Steps }

func seeded(seed int) *writer { return &writer{pen.SeededSteps(seed)} }

// bound draws a bound, in most cases one that is about the keys that are drawn.
func (w *writer) bound() string {
	if w.Below(6) == 0 {
		b := make([]byte, w.Below(api.MaxKey+1))
		for k := range b {
			b[k] = byte(w.Below(256))
		}
		return string(b)
	}
	return pen.One(w.Pen, "k", "k0", "k1", "k1", "k2", "k2", "k3", "k1\x00", "k2\x00", "", "\x00", "l", "twelve bytes", "twelve byte", "\xff", "\xff\x00", "k20", "k\"\\\n\t", "k50")
}

// someBounds draws bounds that rise, and whose expression may be too long.
func (w *writer) someBounds() []string {
	var all []string
	for count := pen.One(w.Pen, 1, 1, 2, 2, 3); len(all) < count; {
		all = append(all, w.bound())
		slices.Sort(all)
		all = slices.Compact(all)
	}
	return all
}

// keyed gives the numbers of the tasks that can be spread.
func keyed(p api.Plan) []int {
	var all []int
	for k, t := range p.Tasks {
		if t.Kind == api.Fold || t.Kind == api.Window || t.Kind == api.Dedup {
			all = append(all, k)
		}
	}
	return all
}

// ground draws a ground whose task can be spread, and whose plan and tapes have texts.
func (w *writer) ground() ground {
	return w.groundOf(func() api.Plan { return pen.One(w.Pen, w.Plan(), w.Plan(), w.Lean()) }, 9)
}

// groundOf draws a ground of plans that are drawn so, with at most so many records on a tape.
func (w *writer) groundOf(draw func() api.Plan, most int) ground {
	for {
		p := draw()
		tasks := keyed(p)
		if len(tasks) == 0 {
			continue
		}
		p.Cap = pen.One(w.Pen, 1, 1, 2, 3, api.MaxCap)
		g := ground{plan: p, tapes: w.Tapes(p, w.Between(0, most)), task: tasks[w.Below(len(tasks))], bounds: w.someBounds()}
		// Names that the new tasks would have.
		if w.Below(3) == 0 {
			p.Tasks[w.Below(len(p.Tasks))].Name = pen.One(w.Pen, "x0", "x1", "x2", "x3")
		}
		if _, e := scale.Spread(g.plan, g.task, g.bounds...); e == api.OK && g.hasTexts() {
			return g
		}
	}
}

func (g ground) hasTexts() bool {
	if _, err := plan.PrintPlan(g.plan); err != nil {
		return false
	}
	return !slices.ContainsFunc(g.tapes, func(l []api.Record) bool {
		_, err := plan.PrintTape(l)
		return err != nil
	})
}

// config draws a configuration that fits, with more records for the task that is spread.
func (w *writer) config(g ground) api.Config {
	c := w.Config(g.plan, g.tapes, pen.One(w.Pen, 0, 1, 3))
	if w.Below(3) > 0 {
		edge := g.shape().Ins[g.task][0]
		for range w.Below(12) {
			r := w.Record(api.MaxLoops)
			r.Key = pen.One(w.Pen, r.Key, w.Key(200))
			c.Lanes[edge] = append(c.Lanes[edge], r)
		}
	}
	return c
}

// events draws events that can happen, one behind the other, from a configuration on, and gives where they lead.
func (w *writer) events(g ground, c api.Config, most int) ([]api.Event, api.Config) {
	f := g.flow()
	var all []api.Event
	for range w.Below(most + 1) {
		can := f.Enabled(c)
		if len(can) == 0 {
			break
		}
		e := can[w.Below(len(can))]
		// The task that is spread is to have its turn.
		if k := slices.IndexFunc(can, func(e api.Event) bool { return e.Task == g.task }); k >= 0 && w.Below(3) == 0 {
			e = can[k]
		}
		c, _ = f.Step(c, e)
		all = append(all, e)
	}
	return all, c
}

// shotOf gives a shot that stands for a configuration, and what of each sink's output is committed.
func (w *writer) shotOf(g ground, c api.Config, id int) (api.Shot, [][]api.Record) {
	sh := g.shape()
	s := api.Shot{Id: id, Sum: heal.Sum(g.plan, g.tapes)}
	committed := make([][]api.Record, len(c.Outs))
	for task := range g.plan.Tasks {
		part := api.Part{State: c.States[task]}
		for _, edge := range sh.Ins[task] {
			part.Logs = append(part.Logs, c.Lanes[edge])
		}
		if k := slices.Index(sh.Sinks, task); k >= 0 {
			n := w.Below(len(c.Outs[k]) + 1)
			committed[k], part.Pend = c.Outs[k][:n], c.Outs[k][n:]
		}
		s.Parts = append(s.Parts, part)
	}
	return s, committed
}

// played lets an engine do drawn steps: as many as so many fair rounds have.
func (w *writer) played(g ground, e *engine.Engine, rounds int) {
	w.At(g.shape())
	for range rounds * (len(w.Picks) + 1) {
		e.Do(w.Step(e.Status()))
	}
}

// disk draws what a disk holds: nothing, what an engine of the ground or of other tapes left there, whole or with something spoilt, and pieces.
func (w *writer) disk(t *testing.T, g ground) []api.File {
	t.Helper()
	var files []api.File
	if n := w.Below(6); n > 0 {
		from := g
		if n == 1 {
			from = g.with(w.Tapes(g.plan, 3))
			if !from.hasTexts() {
				from = g
			}
		}
		e := from.open(t, w.Between(1, 3), nil)
		w.Calls = pen.One(w.Pen, 60, 400)
		w.played(from, e, w.Below(40))
		files = e.Files()
	}
	for range pen.One(w.Pen, 0, 0, 1, 1, 2) {
		files = w.Harmed(files)
	}
	return files
}
