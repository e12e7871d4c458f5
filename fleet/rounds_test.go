package fleet_test

import (
	"fmt"
	"slices"
	"testing"

	"eddy/api"
	"eddy/pen"
	"eddy/shape"
)

// An order gives the picks of a fair round in some order.
type order struct {
	name string
	of   func(picks []call) []call
}

// orders gives some, in a list, so that a seed draws the same each time: the drawn one is another one in each round; against the stream nothing comes far in a round, with it much does.
func (k kind) orders(w *writer) []order {
	sh, _, _ := shape.Build(k.plan)
	place := func(c call) int { return slices.Index(sh.Order, c.A) }
	along := func(picks []call, way int) []call {
		all := slices.Clone(picks)
		slices.SortStableFunc(all, func(a, b call) int { return way * (place(a) - place(b)) })
		return all
	}
	drawn := func(picks []call) []call {
		var all []call
		for _, n := range w.Order(len(picks)) {
			all = append(all, picks[n])
		}
		return all
	}
	return []order{
		{"drawn", drawn},
		{"with the stream", func(picks []call) []call { return along(picks, 1) }},
		{"against the stream", func(picks []call) []call { return along(picks, -1) }},
	}
}

// posted lays the post to the front of a round, to its end or anywhere.
func (w *writer) posted(picks []call) []call {
	return slices.Insert(slices.Clone(picks), pen.One(w.Pen, 0, len(picks), w.Below(len(picks))), call{What: "post"})
}

// settled gives the remote edges in a drawn order.
func (w *writer) settled(k kind) []int {
	all := k.remotes()
	var edges []int
	for _, n := range w.Order(len(all)) {
		edges = append(edges, all[n])
	}
	return edges
}

// settle lets all come in that is on its way, as P24.15 says it; does makes a call. It tells whether it has ended within as many calls as can be needed.
func settle(edges []int, does func(c call) answer) bool {
	const most = 20000
	calls := 0
	drain := func() {
		for calls < most && does(call{"deliver", 0, 0}).Ok {
			calls++
		}
	}
	drain()
	for _, edge := range edges {
		for sent := 2; sent > 1 && calls < most; calls++ {
			sent = does(call{"tick", edge, 0}).Number
			drain()
		}
	}
	return calls < most
}

// restFault tells what of P24.15 isn't so: the fleet's answers alone tell it.
func (w *watch) restFault() string {
	for edge, l := range w.fleet.Config().Lanes {
		if here := w.fleet.Here()[edge]; len(l) > 0 || here > 0 {
			return fmt.Sprint("the lane of edge ", edge, " holds ", here, " items, and on its way is ", pen.TellRecords(l))
		}
	}
	for task, s := range w.fleet.Config().States {
		if t := w.plan.Tasks[task]; t.Kind == api.Source && s.Num != len(w.tapes[t.Num]) {
			return fmt.Sprint("source ", task, " has read ", s.Num, " of ", len(w.tapes[t.Num]), " records")
		}
	}
	l := w.fleet.Trail()
	for _, e := range slices.Backward(l) {
		switch e.Kind {
		case api.TrailReady, api.TrailAbort:
			return ""
		case api.TrailTrigger:
			return fmt.Sprint("snapshot ", e.Id, " is under way")
		}
	}
	return ""
}

// round makes a fair round, and tells whether something has moved. What is told behind each call isn't looked at: it makes many of them.
func (w *watch) round(t *testing.T, edges []int, steps []call) (moved bool) {
	t.Helper()
	does := func(c call) answer {
		w.past = append(w.past, c)
		got, want := c.of(w.fleet), c.of(w.model)
		if !same(got, want) {
			t.Fatalf("P24.6 to P24.9: %v: the last answers %s, want %s", w, c.told(got), c.told(want))
		}
		return got
	}
	if !settle(edges, does) {
		t.Fatalf("P24.15: %v: it doesn't settle", w)
	}
	for _, c := range steps {
		switch a := does(c); a.Number {
		case api.DidStep, api.DidMark, api.DidHalt, api.DidAck, api.DidReady:
			moved = true
		}
	}
	return moved
}

// rests makes fair rounds till nothing moves, and tells whether it comes to that.
func (w *watch) rests(t *testing.T, d *writer, in order, most int) bool {
	t.Helper()
	for range most {
		if w.round(t, d.settled(w.kind), d.posted(in.of(w.model.picks()))) {
			continue
		}
		for _, why := range []string{w.restFault(), w.runFault()} {
			if why != "" {
				t.Fatalf("P24.15: %v: nothing moves any more in the order %q, and %s", w, in.name, why)
			}
		}
		return true
	}
	return false
}

// movesWithoutMarkers fails the test where a run that is left would come to rest in the marker-free system. Two loops that cross, so that each tail leads back to the other's head, may let a record go round for very long: then it is the plan that moves, and not the markers.
func (w *watch) movesWithoutMarkers(t *testing.T) {
	t.Helper()
	c := w.fleet.Config()
	for n := range 1000 {
		l := w.flow.Enabled(c)
		if len(l) == 0 {
			t.Fatalf("%v: the rounds don't come to rest, and the marker-free system does so behind %d events", w, n)
		}
		c, _ = w.flow.Step(c, l[n%len(l)])
	}
}

// TestRoundsUntilNothingMoves: from drawn configurations with snapshots under way, given up and none, and with packets in flight, lost, doubled and spoilt; in any order.
func TestRoundsUntilNothingMoves(t *testing.T) {
	met, left := map[string]int{}, 0
	for seed := range 240 {
		d := seeded(40000 + seed)
		k := d.kind()
		k.tapes = d.Tapes(k.plan, 3)
		k.start = d.Config(k.plan, k.tapes, pen.One(d.Pen, 0, 1, 3))
		in := k.orders(d)[seed%3]
		w := k.watch(t)
		for _, c := range d.script(k, pen.One(d.Pen, 0, 20, 80)) {
			w.must(t, c)
		}
		under := w.model.under()
		if !w.rests(t, d, in, 300) {
			left++
			w.movesWithoutMarkers(t)
			continue
		}
		met[fmt.Sprint("mode ", k.mode, ", one was under way: ", under != 0)]++
		met[fmt.Sprint("order ", in.name, ", remote edges: ", min(len(k.remotes()), 2))]++
	}
	for mode := 1; mode <= 3; mode++ {
		wantCases(t, met, 15, fmt.Sprint("mode ", mode, ", one was under way: true"), fmt.Sprint("mode ", mode, ", one was under way: false"))
	}
	for _, in := range (kind{plan: line()}).orders(nil) {
		for remotes := range 3 {
			wantCases(t, met, 5, fmt.Sprint("order ", in.name, ", remote edges: ", remotes))
		}
	}
	if left > 12 {
		t.Errorf("%d runs are left before they come to rest", left)
	}
}

// TestSettling: behind it all that was put has come in, the sending ends know all words, and nothing is in flight; also behind a network that was full.
func TestSettling(t *testing.T) {
	for seed := range 300 {
		d := seeded(50000 + seed)
		k := d.kind()
		f, m := k.open(t), k.model()
		for _, c := range d.script(k, d.length(k)) {
			c.of(f)
			c.of(m)
		}
		if edges := k.remotes(); d.Below(4) == 0 && len(edges) > 0 {
			for len(f.Flights()) < 256 {
				f.Tick(edges[0])
			}
		}
		before := f.Config()
		if !settle(d.settled(k), func(c call) answer { return c.of(f) }) {
			t.Fatalf("P24.15: %v: it doesn't settle", k)
		}
		if l := f.Flights(); len(l) > 0 {
			t.Fatalf("P24.15: %v: behind it is in flight %s", k, flightsTold(l))
		}
		records := 0
		for edge := range k.plan.Edges {
			records += f.Here()[edge] - len(before.Lanes[edge])
			if n := f.Tick(edge); k.remote(edge) && n != 1 {
				t.Fatalf("P24.15: %v: behind it Tick(%d) answers %d", k, edge, n)
			}
		}
		if records < 0 {
			t.Fatalf("P24.15: %v: fewer items are in the lanes than there are records", k)
		}
	}
}

// A twin is a fleet and the model of it, which are told the same.
type twin struct {
	fleet system
	*model
}

func (w twin) does(c call) answer {
	c.of(w.model)
	return c.of(w.fleet)
}

// giveUp begins snapshots and gives them up, with some calls in between.
func (d *writer) giveUp(w twin, count int) {
	for range count {
		w.does(call{What: "trigger"})
		for range pen.One(d.Pen, 0, 0, 1, 5) {
			w.does(d.pick(w.model))
			w.does(d.network(w.model))
		}
		w.does(call{What: "abort"})
	}
}

// readyIn tells in which of so many fair rounds a snapshot gets ready; 0: in none. Beside them other picks may be made.
func (d *writer) readyIn(t *testing.T, w twin, id, most int, in order, beside bool) int {
	t.Helper()
	for round := range most {
		if !settle(d.settled(w.kind), w.does) {
			t.Fatalf("P24.15: %v: it doesn't settle", w.kind)
		}
		for _, c := range d.posted(in.of(w.picks())) {
			for beside && d.Below(3) == 0 {
				w.does(d.pick(w.model))
			}
			if a := w.does(c); a.Number == api.DidReady && a.Shot.Id == id {
				return round + 1
			}
		}
	}
	return 0
}

// long gives plans of as many tasks as there may be: one behind the other, round and round, and side by side.
func long() []api.Plan {
	chain, ring := []string{"s source 0"}, []string{"s source 0", "h head"}
	for n := range 10 {
		chain = append(chain, fmt.Sprint("m", n, " map key ; val"))
		ring = append(ring, fmt.Sprint("m", n, " map key ; val"))
	}
	chain, ring = append(chain, "k sink", "s.0 m0.0", "m9.0 k.0"), append(ring[:10], "t tail 0 ; 9", "k sink", "s.0 h.0", "h.0 m0.0", "m7.0 t.0", "t.0 h.1", "t.1 k.0")
	for n := range 9 {
		edge := fmt.Sprint("m", n, ".0 m", n+1, ".0")
		chain = append(chain, edge)
		if n < 7 {
			ring = append(ring, edge)
		}
	}
	wide := pen.ReadPlan("s source 0", "e tee", "f tee", "g tee", "h tee", "k sink", "l sink", "m sink", "n sink", "o sink", "p sink", "q sink",
		"s.0 e.0", "e.0 f.0", "e.1 g.0", "e.2 h.0", "f.0 k.0", "f.1 l.0", "g.0 m.0", "g.1 n.0", "g.2 o.0", "h.0 p.0", "h.1 q.0")
	return []api.Plan{pen.ReadPlan(chain...), pen.ReadPlan(ring...), wide}
}

// TestReadyInTime: in mode Overtaking within 2N + A + 1 fair rounds, whatever the lanes hold and the network does, and whatever is picked beside them.
func TestReadyInTime(t *testing.T) {
	full, given := 0, map[int]int{}
	for seed := range 300 {
		d := seeded(60000 + seed)
		k := d.kind().in(api.Overtaking).from(d.Between(1, 9000))
		if d.Below(4) == 0 {
			k.plan = long()[d.Below(3)]
			k.tapes, k.place = d.Tapes(k.plan, 40), d.places(len(k.plan.Tasks))
		}
		k.start = d.Config(k.plan, k.tapes, pen.One(d.Pen, 0, 3, 10))
		aborts, beside := pen.One(d.Pen, 0, 0, 1, 2, 5, 20), d.Below(2) == 0
		given[aborts]++
		in := k.orders(d)[seed%3]
		w := twin{k.open(t), k.model()}
		d.giveUp(w, aborts)
		a := w.does(call{What: "trigger"})
		if a.Err != api.OK {
			t.Fatalf("P24.6: %v: error %d", k, a.Err)
		}
		for edge := range k.plan.Edges {
			if w.full(edge) {
				full++
			}
		}
		if most := 2*len(k.plan.Tasks) + aborts + 1; d.readyIn(t, w, a.Number, most, in, beside) == 0 {
			t.Fatalf("P24.16: %v: %d isn't ready behind %d fair rounds in the order %q, with %d snapshots given up before", k, a.Number, most, in.name, aborts)
		}
	}
	if full < 300 || given[20] < 30 {
		t.Errorf("%d lanes were full, of snapshots given up there were %v", full, given)
	}
}
