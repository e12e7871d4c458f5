package runner_test

import (
	"fmt"
	"slices"
	"testing"

	"eddy/api"
	"eddy/pen"
	"eddy/runner"
	"eddy/shape"
)

// An order gives the steps of a fair round in some order.
type order struct {
	name string
	of   func(steps []call) []call
}

// orders gives some, in a list, so that a seed draws the same each time: the drawn one is another one in each round; against the stream nothing comes far in a round, with it much does.
func (k kind) orders(w *writer) []order {
	sh, _, _ := shape.Build(k.plan)
	place := func(c call) int { return slices.Index(sh.Order, c.Task) }
	along := func(steps []call, way int) []call {
		all := slices.Clone(steps)
		slices.SortStableFunc(all, func(a, b call) int { return way * (place(a) - place(b)) })
		return all
	}
	drawn := func(steps []call) []call {
		var all []call
		for _, n := range w.Order(len(steps)) {
			all = append(all, steps[n])
		}
		return all
	}
	return []order{
		{"drawn", drawn},
		{"with the stream", func(steps []call) []call { return along(steps, 1) }},
		{"against the stream", func(steps []call) []call { return along(steps, -1) }},
	}
}

// posted lays the post to the front of a round, to its end or anywhere.
func (w *writer) posted(steps []call) []call {
	return slices.Insert(slices.Clone(steps), pen.One(w.Pen, 0, len(steps), w.Below(len(steps))), call{What: "post"})
}

// restFault tells what of P16.15 isn't so. The model tells of the markers in the lanes; the runner has answered as it did.
func (w *watch) restFault() string {
	for edge, l := range w.run.Config().Lanes {
		if len(l) > 0 || len(w.model.lanes[edge]) > 0 {
			return fmt.Sprint("the lane of edge ", edge, " holds ", w.model.lanes[edge])
		}
	}
	for task, s := range w.run.Config().States {
		if t := w.plan.Tasks[task]; t.Kind == api.Source && (s.Num != len(w.tapes[t.Num]) || len(w.model.controls[task]) > 0) {
			return fmt.Sprint("source ", task, " has read ", s.Num, " of ", len(w.tapes[t.Num]), " records, and its control lane holds ", w.model.controls[task])
		}
	}
	if id, tasks := w.run.Under(); id != 0 {
		return fmt.Sprint("snapshot ", id, " is under way, without ", tasks)
	}
	return ""
}

// round makes the steps of a fair round, and tells whether something has moved.
func (w *watch) round(t *testing.T, steps []call) (moved bool) {
	t.Helper()
	for _, c := range steps {
		a, why := w.does(c)
		if why != "" {
			t.Fatalf("%v: %s", w, why)
		}
		switch a.Number {
		case api.DidStep, api.DidMark, api.DidHalt, api.DidAck, api.DidReady:
			moved = true
		}
	}
	return moved
}

// shootAtRest takes a snapshot where nothing moves: no other marker turns up, and the shot is where the runner stands.
func (w *watch) shootAtRest(t *testing.T) {
	t.Helper()
	id, e := w.run.Trigger()
	w.model.Trigger()
	if e == api.ErrPostIds {
		return
	} else if e != api.OK {
		t.Fatalf("P16.15: %v: nothing moves, and Trigger answers error %d", w, e)
	}
	trail := len(w.run.Trail())
	for w.round(t, append(w.model.picks(), call{What: "post"})) {
	}
	for _, e := range w.run.Trail()[trail:] {
		if e.Id != id {
			t.Fatalf("P16.15: %v: behind a rest the trail goes on with %s", w, pen.TellTrail([]api.Trail{e}))
		}
	}
	if l := w.run.Trail(); l[len(l)-1] != (api.Trail{Kind: api.TrailReady, Id: id}) {
		t.Fatalf("P16.15: %v: a snapshot that was begun at rest doesn't get ready", w)
	}
}

// movesWithoutMarkers fails the test where a run that is left would come to rest in the marker-free system. Two loops that cross, so that each tail leads back to the other's head, may let a record go round for very long: then it is the plan that moves, and not the markers.
func (w *watch) movesWithoutMarkers(t *testing.T) {
	t.Helper()
	c := w.run.Config()
	for n := range 1000 {
		l := w.flow.Enabled(c)
		if len(l) == 0 {
			t.Fatalf("%v: the rounds don't come to rest, and the marker-free system does so behind %d events", w, n)
		}
		c, _ = w.flow.Step(c, l[n%len(l)])
	}
}

// TestRoundsUntilNothingMoves: from drawn configurations with snapshots under way, given up and none; in any order.
func TestRoundsUntilNothingMoves(t *testing.T) {
	met, left := map[string]int{}, 0
	for seed := range 450 {
		d := seeded(seed)
		k := d.kind()
		k.tapes = d.Tapes(k.plan, 3)
		k.start = d.Config(k.plan, k.tapes, pen.One(d.Pen, 0, 1, 3))
		for _, in := range k.orders(d) {
			w := k.watch(t)
			for _, c := range d.script(k, pen.One(d.Pen, 0, 10, 40)) {
				if _, why := w.does(c); why != "" {
					t.Fatalf("%v: %s", w, why)
				}
			}
			under, _ := w.run.Under()
			moved := true
			for moved && len(w.past) < 2500 {
				moved = w.round(t, d.posted(in.of(w.model.picks())))
			}
			if moved {
				left++
				w.movesWithoutMarkers(t)
				continue
			}
			if why := w.restFault(); why != "" {
				t.Fatalf("P16.15: %v: nothing moves any more in the order %q, and %s", w, in.name, why)
			}
			w.shootAtRest(t)
			met[fmt.Sprint("mode ", k.mode, ", order ", in.name)]++
			met[fmt.Sprint("mode ", k.mode, ", one was under way: ", under != 0)]++
		}
	}
	for mode := 1; mode <= 3; mode++ {
		for _, in := range (kind{plan: line()}).orders(nil) {
			wantCases(t, met, 100, fmt.Sprint("mode ", mode, ", order ", in.name))
		}
		wantCases(t, met, 100, fmt.Sprint("mode ", mode, ", one was under way: true"), fmt.Sprint("mode ", mode, ", one was under way: false"))
	}
	if left > 10 {
		t.Errorf("%d runs are left before they come to rest", left)
	}
}

// A twin is a runner and the model of it, which are told the same.
type twin struct {
	run *runner.Runner
	*model
}

func (w twin) does(c call) answer {
	c.of(w.model)
	return c.of(w.run)
}

// giveUp begins snapshots and gives them up, with some picks in between.
func (d *writer) giveUp(w twin, count int) {
	for range count {
		w.does(call{What: "trigger"})
		for range pen.One(d.Pen, 0, 0, 1, 5) {
			w.does(d.pick(w.model))
		}
		w.does(call{What: "abort"})
	}
}

// readyIn tells in which of so many fair rounds a snapshot gets ready; 0: in none. Beside them other picks may be made.
func (d *writer) readyIn(w twin, id, most int, in order, beside bool) int {
	for round := range most {
		for _, c := range d.posted(in.of(w.picks())) {
			for beside && d.Below(3) == 0 {
				w.does(d.pick(w.model))
			}
			if a := w.does(c); a.Number == api.DidReady && a.Shot.Id == id {
				return round + 1
			}
		}
	}
	return 0
}

// long gives plans of as many tasks as there may be: one behind the other, round and round, and side by side.
func long() []api.Plan {
	chain, ring := []string{"s source 0"}, []string{"s source 0", "h head"}
	for n := range 10 {
		chain = append(chain, fmt.Sprint("m", n, " map key ; val"))
		ring = append(ring, fmt.Sprint("m", n, " map key ; val"))
	}
	chain, ring = append(chain, "k sink", "s.0 m0.0", "m9.0 k.0"), append(ring[:10], "t tail 0 ; 9", "k sink", "s.0 h.0", "h.0 m0.0", "m7.0 t.0", "t.0 h.1", "t.1 k.0")
	for n := range 9 {
		edge := fmt.Sprint("m", n, ".0 m", n+1, ".0")
		chain = append(chain, edge)
		if n < 7 {
			ring = append(ring, edge)
		}
	}
	wide := pen.ReadPlan("s source 0", "e tee", "f tee", "g tee", "h tee", "k sink", "l sink", "m sink", "n sink", "o sink", "p sink", "q sink",
		"s.0 e.0", "e.0 f.0", "e.1 g.0", "e.2 h.0", "f.0 k.0", "f.1 l.0", "g.0 m.0", "g.1 n.0", "g.2 o.0", "h.0 p.0", "h.1 q.0")
	return []api.Plan{pen.ReadPlan(chain...), pen.ReadPlan(ring...), wide}
}

// TestReadyInTime: in mode Overtaking within 2N + A + 1 fair rounds, whatever the lanes hold, and whatever is picked beside them.
func TestReadyInTime(t *testing.T) {
	full, given := 0, map[int]int{}
	for seed := range 900 {
		d := seeded(seed)
		k := d.kind().in(api.Overtaking).from(d.Between(1, 9000))
		if d.Below(6) == 0 {
			k.plan = long()[d.Below(3)]
			k.tapes = d.Tapes(k.plan, 40)
		}
		k.start = d.Config(k.plan, k.tapes, pen.One(d.Pen, 0, 3, 10))
		aborts, beside := pen.One(d.Pen, 0, 0, 1, 2, 5, 20), d.Below(2) == 0
		given[aborts]++
		for _, in := range k.orders(d) {
			w := twin{k.open(t), k.model()}
			d.giveUp(w, aborts)
			a := w.does(call{What: "trigger"})
			if a.Err != api.OK {
				t.Fatalf("P16.6: %v: error %d", k, a.Err)
			}
			for edge, l := range w.run.Config().Lanes {
				if !w.back(edge) && len(l) >= k.plan.Cap {
					full++
				}
			}
			if most := 2*len(k.plan.Tasks) + aborts + 1; d.readyIn(w, a.Number, most, in, beside) == 0 {
				t.Fatalf("P16.16: %v: %d isn't ready behind %d fair rounds in the order %q, with %d snapshots given up before", k, a.Number, most, in.name, aborts)
			}
		}
	}
	if full < 1000 || given[20] < 100 {
		t.Errorf("%d lanes were full, of snapshots given up there were %v", full, given)
	}
}
