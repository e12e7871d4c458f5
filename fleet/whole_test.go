package fleet_test

import (
	"fmt"
	"slices"
	"testing"

	"eddy/api"
	"eddy/equal"
	"eddy/pen"
	"eddy/runner"
)

// TestOneMachineIsTheRunner: with all tasks at one machine the same calls get the same answers, and there is no network.
func TestOneMachineIsTheRunner(t *testing.T) {
	for seed := range 400 {
		w := seeded(70000 + seed)
		k := w.kind()
		for task := range k.place {
			k.place[task] = seed % 8
		}
		f, m := k.open(t), k.model()
		r, e := runner.New(k.plan, k.tapes, k.mode, k.start, k.next, k.sum)
		if e != api.OK {
			t.Fatalf("P16.1: %v: error %d", k, e)
		}
		for n := range w.length(k) {
			c := w.call(m)
			c.of(m)
			got := c.of(f)
			if !c.isPlain() {
				if got.Number != 0 || got.Ok || len(f.Flights()) > 0 {
					t.Fatalf("P24.12: %v: %v answers %s", k, c, c.told(got))
				}
				continue
			}
			if want := c.of(run{r}); !same(got, want) {
				t.Fatalf("P24.12: %v: call %d, %v, answers %s, the runner's %s", k, n, c, c.told(got), c.told(want))
			}
			if !equal.Config(f.Config(), r.Config()) || !slices.Equal(f.Trail(), r.Trail()) {
				t.Fatalf("P24.12: %v: behind call %d, %v, stands %s, and the runner at %s", k, n, c, pen.TellConfig(f.Config()), pen.TellConfig(r.Config()))
			}
		}
	}
}

// A run is a runner that can be asked as a fleet is, but for its network.
type run struct{ *runner.Runner }

func (run) Tick(int) int          { panic("a runner has no network") }
func (run) Deliver(int) bool      { panic("a runner has no network") }
func (run) Drop(int) bool         { panic("a runner has no network") }
func (run) Copy(int) bool         { panic("a runner has no network") }
func (run) Flip(int, int) bool    { panic("a runner has no network") }
func (run) Flights() []api.Flight { panic("a runner has no network") }
func (run) Here() []int           { panic("a runner has no network") }

// TestTheWholeFleet: P20.9 (a) and (b), P24.13, P24.14 and P24.17, with tasks at one machine, at two and at eight, in all modes: the watch looks behind every call.
func TestTheWholeFleet(t *testing.T) {
	met := map[string]int{}
	for seed := range 150 {
		d := seeded(80000 + seed)
		k := d.kindOf(pen.One(d.Pen, d.Plan(), d.Plan(), d.Lean(), loop(), pair()))
		for machines := range 3 {
			for task := range k.place {
				k.place[task] = d.Below([]int{1, 2, 8}[machines])
			}
			k := k.in(seed%3 + 1).from(d.Between(1, 9000))
			w := k.watch(t)
			does := func(c call) answer {
				a := w.must(t, c)
				if len(a.Shot.Parts) > 0 {
					before, after, _ := split(w.fleet.Trail(), a.Shot.Id)
					met[fmt.Sprint("mode ", k.mode, ", machines ", machines, ": a shot, events on both sides: ", len(before) > 0 && len(after) > 0)]++
					met[fmt.Sprint("mode ", k.mode, ", machines ", machines, ": a shot with records in its logs: ", logged(a.Shot))]++
				}
				return a
			}
			for range 200 {
				does(d.call(w.model))
				if d.Below(20) == 0 {
					settle(d.settled(k), does)
				}
			}
			if why := w.runFault(); why != "" {
				t.Fatalf("%v: %s", w, why)
			}
		}
	}
	for mode := 1; mode <= 3; mode++ {
		for machines := range 3 {
			wantCases(t, met, 10, fmt.Sprint("mode ", mode, ", machines ", machines, ": a shot, events on both sides: true"))
			if mode != api.Aligned {
				wantCases(t, met, 5, fmt.Sprint("mode ", mode, ", machines ", machines, ": a shot with records in its logs: true"))
			}
		}
	}
}

// logged tells whether a shot has records in its logs.
func logged(s api.Shot) bool {
	for _, p := range s.Parts {
		for _, l := range p.Logs {
			if len(l) > 0 {
				return true
			}
		}
	}
	return false
}

// last gives the outputs of the marker-free system when no event is possible any more; false, if there is no end of it.
func (k kind) last(t *testing.T, d *writer) ([][]api.Record, bool) {
	t.Helper()
	f, c := k.flow(t), k.start
	for range 20000 {
		l := f.Enabled(c)
		if len(l) == 0 {
			return c.Outs, true
		}
		c, _ = f.Step(c, l[d.Below(len(l))])
	}
	return nil, false
}

// TestTheSameOutputs: P20.9 (c): in a plan in which no task has more than one in port, wherever the tasks live and whatever the network did.
func TestTheSameOutputs(t *testing.T) {
	rests, records := map[string]int{}, 0
	for seed := range 120 {
		d := seeded(90000 + seed)
		p := d.Lean()
		p.Cap = pen.One(d.Pen, 1, 2, 8)
		k := d.kindOf(p)
		k.tapes = d.Tapes(p, 12)
		k.start = k.flow(t).Start()
		want, ends := k.last(t, d)
		if !ends {
			t.Fatalf("P20.6: %v: the marker-free system doesn't come to rest", k)
		}
		for mode := 1; mode <= 3; mode++ {
			k := k.in(mode).on(d.places(len(p.Tasks))...)
			w := twin{k.open(t), k.model()}
			for range pen.One(d.Pen, 0, 100, 400) {
				w.does(d.call(w.model))
			}
			if !w.endsAt(t, d, k.orders(d)[seed%3]) {
				t.Fatalf("P24.15: %v: it doesn't come to rest", k)
			}
			got := w.fleet.Config()
			for sink, l := range got.Outs {
				if !equal.Records(l, want[sink]) {
					t.Fatalf("P20.9 (c): %v: output %d is %s, want %s", k, sink, pen.TellRecords(l), pen.TellRecords(want[sink]))
				}
				records += len(l)
			}
			rests[fmt.Sprint("remote edges: ", min(len(k.remotes()), 2))]++
		}
	}
	wantCases(t, rests, 30, "remote edges: 0", "remote edges: 1", "remote edges: 2")
	if records < 3000 {
		t.Errorf("%d records are put out in all", records)
	}
}

// endsAt makes fair rounds till all tapes are read and no lane holds or awaits anything.
func (w twin) endsAt(t *testing.T, d *writer, in order) bool {
	t.Helper()
	for range 400 {
		if !settle(d.settled(w.kind), w.does) {
			return false
		}
		moved := false
		for _, c := range d.posted(in.of(w.picks())) {
			switch w.does(c).Number {
			case api.DidEmpty, api.DidBlock, api.DidHeld:
			default:
				moved = true
			}
		}
		if !moved {
			return true
		}
	}
	return false
}

// TestPlacesDoNotShow: one script of picks and snapshots, with everything settled between, does the same wherever the tasks live.
func TestPlacesDoNotShow(t *testing.T) {
	for seed := range 120 {
		d := seeded(100000 + seed)
		k := d.kind()
		near, far := k.on(make([]int, len(k.place))...).open(t), k.open(t)
		m := k.on(make([]int, len(k.place))...).model()
		for range d.length(k) {
			settle(d.settled(k), func(c call) answer { return c.of(far) })
			c := d.call(m)
			if !c.isPlain() {
				continue
			}
			c.of(m)
			if got, want := c.of(far), c.of(near); !same(got, want) || !equal.Config(far.Config(), near.Config()) {
				t.Fatalf("P24.4, P24.6: %v: settled, %v answers %s, at one machine %s", k, c, c.told(got), c.told(want))
			}
		}
		if !slices.Equal(far.Trail(), near.Trail()) {
			t.Fatalf("P24.6: %v: the trail is %s, at one machine %s", k, pen.TellTrail(far.Trail()), pen.TellTrail(near.Trail()))
		}
	}
}
