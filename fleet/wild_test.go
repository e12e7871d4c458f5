package fleet_test

import (
	"math"
	"testing"

	"eddy/api"
	"eddy/pen"
)

// wildNumbers: what an int can be, around all that a fleet knows.
func wildNumbers() []int {
	return []int{math.MinInt, math.MinInt + 1, -1 << 32, -256, -8, -1, 0, 1, 2, 3, 4, 5, 7, 8, 23, 24, 135, 136, 255, 256, 257, 1 << 32, 1<<32 + 1, 1 << 61, math.MaxInt - 1, math.MaxInt}
}

// TestWildNumbers: every call with any numbers, of a fleet with nothing, something or much in flight: none panics, and the model answers the same.
func TestWildNumbers(t *testing.T) {
	k := kindOf(pair(), "a=1 | b=2 / x=1", 0, 1, 2, 2).with(2)
	for _, full := range []int{0, 5, 256} {
		for mode := 1; mode <= 3; mode++ {
			f, m := k.in(mode).open(t), k.in(mode).model()
			for _, s := range []system{f, m} {
				s.Pick(0, 0)
				s.Trigger()
				s.Pick(1, 0)
				for len(s.Flights()) < full {
					s.Tick(0)
				}
			}
			for _, a := range wildNumbers() {
				for _, b := range wildNumbers() {
					for _, c := range []call{picked(a, b), {"flip", a, b}, {"tick", a, b}, {"copy", a, b}, {"drop", a, b}, {"deliver", a, b}} {
						if got, want := c.of(f), c.of(m); !same(got, want) {
							t.Fatalf("%s: %v with %d in flight answers %s, want %s", rules, c, full, c.told(got), c.told(want))
						}
					}
				}
			}
			for _, q := range questions() {
				if got, want := q.of(f), q.of(m); !same(got, want) {
					t.Fatalf("%s: %v answers %s, want %s", rules, q, q.told(got), q.told(want))
				}
			}
		}
	}
}

// TestNewOfAnything: it ends and doesn't panic, whatever it is handed.
func TestNewOfAnything(t *testing.T) {
	made := map[bool]int{}
	for seed := range 1500 {
		w := pen.SeededWild(seed)
		lists := func(count int) (all [][]api.Record) {
			for range count {
				all = append(all, w.Records(2))
			}
			return all
		}
		k := seeded(seed).kind()
		k.mode, k.next = pen.One(w.Pen, k.mode, k.mode, k.mode, wildNumbers()[w.Below(26)]), pen.One(w.Pen, k.next, k.next, wildNumbers()[w.Below(26)])
		if w.Below(4) == 0 {
			k.tapes = lists(w.Below(5))
		}
		switch w.Below(8) {
		case 0:
			k.start = api.Config{States: make([]api.State, len(k.plan.Tasks)), Lanes: lists(len(k.plan.Edges)), Outs: lists(len(k.start.Outs))}
		case 1:
			k.start.States[w.Below(len(k.start.States))] = w.State()
		case 2:
			k.start.Lanes[w.Below(len(k.start.Lanes))] = []api.Record{{Key: "deep", Val: pen.Deep(1 << 12)}}
		case 3:
			k.plan.Edges = k.plan.Edges[1:]
		case 4:
			k.place[w.Below(len(k.place))] = wildNumbers()[w.Below(26)]
		case 5:
			k.place = make([]int, w.Below(40))
		}
		f, e := k.made()
		if (f == nil) != (e != api.OK) {
			t.Fatalf("P24.1: New answers a fleet: %v, beside error %d", f != nil, e)
		}
		made[f != nil]++
	}
	if made[true] < 200 || made[false] < 200 {
		t.Errorf("fleets: %v", made)
	}
}

// TestALongLife: a loop between machines lets records go round, so that the numbers of messages and words take more bytes.
func TestALongLife(t *testing.T) {
	k := kindOf(loop(), tape(64), 0, 1, 2, 3).with(8)
	k.plan.Tasks[2].Num = 9
	for mode := 1; mode <= 3; mode++ {
		k := k.in(mode)
		w := twin{k.open(t), k.model()}
		d := seeded(mode)
		does := func(c call) answer {
			got, want := c.of(w.fleet), c.of(w.model)
			if !same(got, want) {
				t.Fatalf("%s: %v: %v answers %s, want %s", rules, k, c, c.told(got), c.told(want))
			}
			return got
		}
		for range 120 {
			settle(k.remotes(), does)
			for range 10 {
				for _, c := range w.picks() {
					does(c)
				}
			}
			for range 40 {
				does(d.call(w.model))
			}
		}
		for _, q := range questions() {
			does(q)
		}
		if n := len(w.roads[2].messages); n < 500 {
			t.Errorf("P24.15: mode %d: %d messages were sent back", mode, n)
		}
	}
}
