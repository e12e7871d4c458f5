package fleet_test

import (
	"math"
	"slices"
	"testing"

	"eddy/api"
	"eddy/equal"
	"eddy/pen"
	"eddy/runner"
	"eddy/shape"
)

// news fails the test where New answers otherwise.
func news(t *testing.T, promise string, k kind, want api.Errno) {
	t.Helper()
	f, e := k.made()
	if e != want || (f == nil) != (want != api.OK) {
		t.Errorf("%s: %v: New answers a fleet: %v, error %d, want %d", promise, k, f != nil, e, want)
	}
}

// TestEachErrorAheadOfTheNext: with every choice of what is wrong.
func TestEachErrorAheadOfTheNext(t *testing.T) {
	fine := kindOf(line(), "a=1 | b=2", 0, 7)
	wrongs := []struct {
		spoil func(k *kind)
		err   api.Errno
	}{
		{func(k *kind) { k.plan.Cap = 9 }, api.ErrShapeSize},
		{func(k *kind) { k.tapes = nil }, api.ErrFlowTape},
		{func(k *kind) { k.mode = 4 }, api.ErrRunMode},
		{func(k *kind) { k.start.States = nil }, api.ErrFlowFit},
		{func(k *kind) { k.next = 0 }, api.ErrRunNext},
		{func(k *kind) { k.place = []int{0, 8} }, api.ErrFleetPlace},
	}
	for choice := range 1 << len(wrongs) {
		k, want := fine, api.OK
		for n, wrong := range slices.Backward(wrongs) {
			if choice>>n&1 == 1 {
				wrong.spoil(&k)
				want = wrong.err
			}
		}
		news(t, "P24.1", k, want)
	}
}

// TestTheRunnersErrors: of plans, tapes, modes, starts and first numbers, whatever the places are.
func TestTheRunnersErrors(t *testing.T) {
	met := map[api.Errno]int{}
	for seed := range 3000 {
		w := seeded(seed)
		k := w.kind()
		w.spoil(&k)
		_, want := runner.New(k.plan, k.tapes, k.mode, k.start, k.next, k.sum)
		fine := k.place
		for _, place := range [][]int{fine, append(slices.Clip(fine), 0), {}, {-1}, fine[:len(fine)-1]} {
			e := want
			if want == api.OK && (len(place) != len(k.plan.Tasks) || slices.Contains(place, -1)) {
				e = api.ErrFleetPlace
			}
			k.place = place
			news(t, "P24.1", k, e)
		}
		met[want]++
	}
	for _, e := range []api.Errno{api.OK, api.ErrShapeSize, api.ErrShapePort, api.ErrShapeName, api.ErrFlowTape, api.ErrRunMode, api.ErrFlowFit, api.ErrRunNext} {
		if met[e] < 20 {
			t.Errorf("the error %d is drawn %d times", e, met[e])
		}
	}
}

// spoil lets something of a kind be wrong.
func (w *writer) spoil(k *kind) {
	switch w.Below(12) {
	case 0:
		k.plan.Cap = pen.One(w.Pen, 0, 9)
	case 1:
		k.plan.Edges = k.plan.Edges[1:]
	case 2:
		k.plan.Tasks[0].Name = "Name"
	case 3:
		k.tapes = nil
	case 4:
		k.mode = pen.One(w.Pen, 0, 4, -1, math.MaxInt, math.MinInt)
	case 5:
		k.start.States = k.start.States[1:]
	case 6:
		k.start.Lanes = append(k.start.Lanes, nil)
	case 7:
		k.start.Lanes[w.Below(len(k.start.Lanes))] = []api.Record{{Key: "thirteen byte"}}
	case 8:
		k.next = pen.One(w.Pen, 0, -1, 10001, math.MaxInt, math.MinInt)
	}
}

// TestPlaces: as many as there are tasks, each from 0 to 7.
func TestPlaces(t *testing.T) {
	k := kindOf(pair(), "a=1 / b=2")
	for _, place := range [][]int{nil, {}, {0}, {0, 0, 0}, {0, 0, 0, 0, 0}, {1, 2, 3, 8}, {-1, 2, 3, 4}, {8, 0, 0, 0}, {0, -1, 8, 0}, {0, math.MinInt, 0, 0}, {0, 0, math.MaxInt, 0}, {0, 0, 0, 1 << 32}, {8}, {-1, 0, 0, 0, 0}, make([]int, 1<<16)} {
		news(t, "P24.1: the places", k.on(place...), api.ErrFleetPlace)
	}
	for _, place := range [][]int{{0, 0, 0, 0}, {7, 7, 7, 7}, {0, 7, 0, 7}, {1, 2, 3, 4}, {7, 6, 5, 0}} {
		news(t, "P24.1: the places", k.on(place...), api.OK)
	}
	many := kindOf(fork(), "a=1")
	for at := range 5 {
		for machine := -1; machine <= 8; machine++ {
			place, want := []int{3, 3, 3, 3, 3}, api.OK
			if place[at] = machine; machine == -1 || machine == 8 {
				want = api.ErrFleetPlace
			}
			news(t, "P24.1: the places", many.on(place...), want)
		}
	}
}

// TestABeginning: the configuration is start, nothing is in flight or under way, the trail is empty; start's records stand in their lanes, remote or not.
func TestABeginning(t *testing.T) {
	for seed := range 400 {
		k := seeded(seed).kind()
		f := k.open(t)
		if c := f.Config(); !equal.Config(c, k.start) {
			t.Errorf("P24.2: %v: the configuration is %s", k, pen.TellConfig(c))
		}
		for edge, n := range f.Here() {
			if n != len(k.start.Lanes[edge]) {
				t.Errorf("P24.2: %v: %d items are in the lane of edge %d", k, n, edge)
			}
		}
		if s, did := f.Post(); did != api.DidEmpty || !equal.Shot(s, api.Shot{}) || len(f.Flights()) != 0 || len(f.Trail()) != 0 || f.Deliver(0) {
			t.Errorf("P24.2: %v: something has happened already", k)
		}
		if id, e := f.Abort(); id != 0 || e != api.ErrPostNone {
			t.Errorf("P24.2: %v: Abort answers %d, error %d", k, id, e)
		}
	}
}

// TestFirstNumbers: the coordinator begins with next, and its shots carry sum.
func TestFirstNumbers(t *testing.T) {
	k := kindOf(line(), "a=1", 3, 4)
	inModes(t, "P24.2", allModes, k.from(17), "trigger = 17", "abort = 17", "trigger = 18", "trigger = under")
	inModes(t, "P24.2", allModes, k.from(9999), "trigger = 9999", "abort = 9999", "trigger = ids", "trail = trigger 9999, abort 9999")
	inModes(t, "P24.2", allModes, k.from(10000), "trigger = ids", "abort = none", "trail =")
	inModes(t, "P24.2", allModes, k.from(5), "trigger = 5", "0.0 = mark", "tick 0 = 2", "deliver 0 = yes", "1.0 = mark", "post = ack", "post = ready: 5 77 {0} {0 []}")
}

// TestCommittedAtFirst: all that start's outputs hold counts as committed, and is never pending.
func TestCommittedAtFirst(t *testing.T) {
	k := kindOf(line(), "a=1 | b=2", 0, 1).at("0 / 2", "y=8", "z=9 | z=7")
	inModes(t, "P24.2", slowModes, k, "trigger = 1", "0.0 = mark", "1.0 = step", "tick 0 = 2", "deliver 0 = yes", "1.0 = mark", "1.0 = empty", "post = ack", "post = ready: 1 77 {0} {3 [] <y=8>}")
	inModes(t, "P24.2", "overtaking", k, "trigger = 1", "0.0 = mark", "tick 0 = 2", "deliver 0 = yes", "1.0 = mark", "1.0 = step", "post = ack", "post = ready: 1 77 {0} {2 [y=8]}")
}

// TestWhichEdgesAreRemote: those whose tasks have unlike machines, whatever their numbers are; back edges too.
func TestWhichEdgesAreRemote(t *testing.T) {
	k := kindOf(loop(), "a=1 | b=2")
	sh, _, _ := shape.Build(k.plan)
	for row := range pen.Rows([]int{0, 5, 7}, 4) {
		k := k.on(slices.Clone(row)...)
		f := k.open(t)
		for edge, e := range k.plan.Edges {
			want := 0
			if row[e.From] != row[e.To] {
				want = 1
			}
			if n := f.Tick(edge); n != want {
				t.Errorf("P24.2: %v: Tick of edge %d (a back edge: %v) answers %d", k, edge, sh.Back[edge], n)
			}
			if l := f.Flights(); want == 1 && (len(l) == 0 || l[len(l)-1].From != row[e.To] || l[len(l)-1].To != row[e.From]) {
				t.Errorf("P24.7: %v: behind a Tick of edge %d is in flight %s", k, edge, flightsTold(l))
			}
		}
	}
}
