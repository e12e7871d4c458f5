package flow_test

import (
	"slices"
	"testing"

	"eddy/api"
	"eddy/pen"
)

// TestBehindEveryStepItFits: P9.9, with all that the model says, in drawn runs.
func TestBehindEveryStepItFits(t *testing.T) {
	events := map[int]int{}
	for seed := range 60 {
		d := pen.Seeded(seed)
		f, c := drawn(t, d, d.Plan())
		for range 12 {
			l := f.asModel(t, c)
			for _, e := range l {
				after := f.after(t, c, e)
				if err := f.Fits(after); err != api.OK {
					t.Fatalf("P9.9: %v: behind %v, %v doesn't fit %v: error %d", f, e, tell(after), tell(c), err)
				}
				events[f.kind(e.Task)]++
			}
			if len(l) == 0 {
				break
			}
			c = f.after(t, c, l[d.Below(len(l))])
		}
	}
	if len(events) != 13 {
		t.Errorf("events of %d kinds of tasks were met, of 13", len(events))
	}
}

// TestLongRunsFit: P9.9, runs from the start on, most of them till they come to rest.
func TestLongRunsFit(t *testing.T) {
	rest := 0
	for seed := range 150 {
		d := pen.Seeded(seed)
		p := d.Plan()
		f := made(t, p, d.Tapes(p, 4))
		c := f.Start()
		for range 150 {
			l := f.Enabled(c)
			if len(l) == 0 {
				rest++
				break
			}
			c = f.after(t, c, l[d.Below(len(l))])
			if f.Fits(c) != api.OK || f.fits(c) != api.OK {
				t.Fatalf("P9.9: %v: %v doesn't fit", f, tell(c))
			}
		}
	}
	if rest < 80 {
		t.Errorf("only %d runs came to rest", rest)
	}
}

// commute fails the test where two enabled events of different tasks disturb one another (P9.10).
func (f tried) commute(t *testing.T, c api.Config, l []api.Event) int {
	t.Helper()
	count := 0
	for _, a := range l {
		still := f.Enabled(f.after(t, c, a))
		for _, b := range l {
			if a.Task >= b.Task {
				continue
			}
			count++
			if !slices.Contains(still, b) {
				t.Fatalf("P9.10: %v: in %v, behind %v, %v isn't enabled any more", f, tell(c), a, b)
			}
			first := f.run(t, c, []api.Event{a, b})
			second := f.run(t, c, []api.Event{b, a})
			if !f.Same(first, second) || !same(first, second) {
				t.Fatalf("P9.10: %v: in %v, %v and %v lead to %v, the other way round to %v", f, tell(c), a, b, tell(first), tell(second))
			}
		}
	}
	return count
}

func TestEventsOfDifferentTasks(t *testing.T) {
	count := 0
	for seed := range 120 {
		d := pen.Seeded(seed)
		f, c := drawn(t, d, d.Plan())
		for range 6 {
			l := f.Enabled(c)
			count += f.commute(t, c, l)
			if len(l) == 0 {
				break
			}
			_, c = f.draw(t, d, c, 3)
		}
	}
	if count < 4000 {
		t.Errorf("only %d pairs of events were tried", count)
	}
}

// A ledger counts the records in the lanes: what it needs to know of a run is how many records each event lays where.
type ledger struct {
	f     tried
	there []int
	// lays says, by task, for each of its events in their order, how many records it laid into each lane.
	lays [][][]int
	// next is how many events of each task have happened.
	next []int
}

// ledgerOf plays a list and writes down what each event lays.
func ledgerOf(t *testing.T, f tried, c api.Config, l []api.Event) *ledger {
	t.Helper()
	g := &ledger{f: f, lays: make([][][]int, len(c.States)), next: make([]int, len(c.States))}
	for _, lane := range c.Lanes {
		g.there = append(g.there, len(lane))
	}
	for _, e := range l {
		after := f.after(t, c, e)
		laid := make([]int, len(c.Lanes))
		for k := range laid {
			laid[k] = len(after.Lanes[k]) - len(c.Lanes[k])
		}
		if f.kind(e.Task) != api.Source {
			laid[f.laneInto(e.Task, e.Port)]++
		}
		g.lays[e.Task], c = append(g.lays[e.Task], laid), after
	}
	return g
}

// can tells whether an event takes no more than there is, as far as this beginning goes.
func (g *ledger) can(e api.Event) bool {
	return g.f.kind(e.Task) == api.Source || g.there[g.f.laneInto(e.Task, e.Port)] > 0
}

// happens writes down an event.
func (g *ledger) happens(e api.Event) {
	if g.f.kind(e.Task) != api.Source {
		g.there[g.f.laneInto(e.Task, e.Port)]--
	}
	for lane, n := range g.lays[e.Task][g.next[e.Task]] {
		g.there[lane] += n
	}
	g.next[e.Task]++
}

// byTask gives each task's events in their order.
func byTask(l []api.Event, tasks int) [][]api.Event {
	all := make([][]api.Event, tasks)
	for _, e := range l {
		all[e.Task] = append(all[e.Task], e)
	}
	return all
}

// otherOrder draws another order of a list that keeps each task's events in their order, and of which each beginning takes no more records from a lane than are there; bold gives one in which only the first is so.
func otherOrder(t *testing.T, d *pen.Pen, g *ledger, l []api.Event, bold bool) (order []api.Event, can bool) {
	t.Helper()
	left, can := byTask(l, len(g.next)), true
	for len(order) < len(l) {
		var some []int
		for task := range left {
			if len(left[task]) > 0 && (bold || g.can(left[task][0])) {
				some = append(some, task)
			}
		}
		if len(some) == 0 {
			t.Fatalf("P9.11: %v: %v can be played whole; behind %v no event can come next", g.f, l, order)
		}
		task := some[d.Below(len(some))]
		e := left[task][0]
		can = can && g.can(e)
		g.happens(e)
		order, left[task] = append(order, e), left[task][1:]
	}
	return order, can
}

// TestRunsInAnotherOrder: P9.11.
func TestRunsInAnotherOrder(t *testing.T) {
	moved, stuck, whole := 0, 0, 0
	for seed := range 150 {
		d := pen.Seeded(seed)
		f, c := drawn(t, d, d.Plan())
		l, end := f.draw(t, d, c, 40)
		for range 4 {
			order, _ := otherOrder(t, d, ledgerOf(t, f, c, l), l, false)
			if !slices.Equal(order, l) {
				moved++
			}
			if got := f.run(t, c, order); !f.Same(got, end) || !same(got, end) {
				t.Fatalf("P9.11: %v: from %v on %v leads to %v, and %v to %v", f, tell(c), l, tell(end), order, tell(got))
			}
			order, can := otherOrder(t, d, ledgerOf(t, f, c, l), l, true)
			got, n, err := f.Replay(c, order)
			if can {
				whole++
			} else {
				stuck++
			}
			if can != (n == len(l) && err == api.OK) || !can && err != api.ErrFlowStuck || can && !f.Same(got, end) {
				t.Fatalf("P9.11: %v: from %v on %v can be played whole, and of %v %d events, error %d", f, tell(c), l, order, n, err)
			}
		}
	}
	if moved < 400 || stuck < 100 || whole < 20 {
		t.Errorf("%d orders were others, %d could not be played whole, %d could", moved, stuck, whole)
	}
}

// toRest plays drawn events till none is enabled, and gives how many.
func (f tried) toRest(t *testing.T, d *pen.Pen, c api.Config) (api.Config, int) {
	t.Helper()
	first := d.Below(3)
	for n := 0; ; n++ {
		l := f.Enabled(c)
		if len(l) == 0 {
			return c, n
		}
		// Some runs are drawn, some take the first that can happen, some the last.
		e := [3]api.Event{l[d.Below(len(l))], l[0], l[len(l)-1]}[first]
		if n > 5000 {
			t.Fatalf("P9.12: %v: a run has more than %d events", f, n)
		}
		c = f.after(t, c, e)
	}
}

// TestRunsComeToRest: P9.12, all at one configuration, behind as many events.
func TestRunsComeToRest(t *testing.T) {
	outputs := 0
	for seed := range 120 {
		d := pen.Seeded(seed)
		p := d.Lean()
		f := made(t, p, d.Tapes(p, 8))
		end, count := f.toRest(t, d, f.Start())
		for _, l := range end.Lanes {
			if len(l) > 0 {
				t.Fatalf("P9.12: %v: at rest there is a record in a lane: %v", f, tell(end))
			}
		}
		for range 4 {
			if got, n := f.toRest(t, d, f.Start()); n != count || !f.Same(got, end) || !same(got, end) {
				t.Fatalf("P9.12: %v comes to rest at %v behind %d events, and at %v behind %d", f, tell(end), count, tell(got), n)
			}
		}
		for _, l := range end.Outs {
			outputs += len(l)
		}
	}
	if outputs < 400 {
		t.Errorf("only %d records came out", outputs)
	}
}

// TestWhatWasLaidLiesThere: P9.13. What is laid into the lanes and taken there is written down as the operators tell it.
func TestWhatWasLaidLiesThere(t *testing.T) {
	for seed := range 200 {
		d := pen.Seeded(seed)
		p := d.Plan()
		f := made(t, p, d.Tapes(p, 4))
		c := f.Start()
		laid, taken := make([][]api.Record, len(p.Edges)), make([]int, len(p.Edges))
		for range 60 {
			l := f.Enabled(c)
			if len(l) == 0 {
				break
			}
			e := l[d.Below(len(l))]
			var r api.Record
			if f.kind(e.Task) == api.Source {
				r = f.tape(e.Task)[c.States[e.Task].Num]
			} else {
				lane := f.laneInto(e.Task, e.Port)
				r = laid[lane][taken[lane]]
				taken[lane]++
			}
			_, sends, _ := f.stage(e.Task).Step(c.States[e.Task], e.Port, r)
			for _, s := range sends {
				lane := f.laneFrom(e.Task, s.Out)
				laid[lane] = append(laid[lane], s.Rec)
			}
			before := c
			c = f.after(t, c, e)
			for k := range laid {
				if !same(c.Lanes[k], laid[k][taken[k]:]) {
					t.Fatalf("P9.13: %v: lane %d holds %s; what was laid and not taken is %s", f, k, tell(c.Lanes[k]), tell(laid[k][taken[k]:]))
				}
			}
			for k, out := range before.Outs {
				if len(c.Outs[k]) < len(out) || !same(c.Outs[k][:len(out)], out) {
					t.Fatalf("P9.13: %v: behind %v output %d is %s, ahead of it %s", f, e, k, tell(c.Outs[k]), tell(out))
				}
			}
		}
		for task := range p.Tasks {
			if f.kind(task) != api.Sink {
				continue
			}
			lane := f.laneInto(task, 0)
			if out := c.Outs[f.output(task)]; !same(out, laid[lane][:taken[lane]]) {
				t.Fatalf("P9.13: %v: sink %d took %s, its output is %s", f, task, tell(laid[lane][:taken[lane]]), tell(out))
			}
		}
	}
}
