package witness_test

import (
	"fmt"
	"math"
	"slices"
	"testing"

	"eddy/api"
	"eddy/pen"
)

// odd draws a number, in many cases one that is out of every range.
func odd(w *pen.Wild) int {
	return pen.One(w.Pen, 0, 0, 0, 1, 1, 1, 2, 3, 4, 6, 11, 12, 13, -1, 99, 9999, 10000, math.MinInt, math.MaxInt, math.MinInt32, math.MaxInt-1)
}

// wildTrail draws entries of which nobody asks whether they can be.
func wildTrail(w *pen.Wild) []api.Trail {
	var l []api.Trail
	for range w.Below(30) {
		l = append(l, api.Trail{Kind: pen.One(w.Pen, odd(w), w.Between(1, 11)), Task: odd(w), Port: odd(w), Id: odd(w)})
	}
	return l
}

// wildConfig draws a configuration that is none of a plan's.
func wildConfig(w *pen.Wild) api.Config {
	var c api.Config
	for range w.Below(4) {
		c.States = append(c.States, w.State())
		c.Lanes = append(c.Lanes, w.Records(2))
		c.Outs = append(c.Outs, w.Records(2))
	}
	if w.Below(4) == 0 {
		c.Lanes = append(c.Lanes, []api.Record{{Val: pen.Deep(1 << 10)}})
	}
	return c
}

// calm makes a call and tells whether it panicked.
func calm(t *testing.T, what string, call func()) {
	t.Helper()
	defer func() {
		if r := recover(); r != nil {
			t.Fatalf("%s: %s panics: %v", rules, what, r)
		}
	}()
	call()
}

// TestCallsOfAnything: trails, numbers, counts of tasks and configurations of any kind; what the calls answer is the model's.
func TestCallsOfAnything(t *testing.T) {
	met := map[string]int{}
	for seed := range 4000 {
		w, right := pen.SeededWild(seed), seeded(seed)
		p := proof{ground: line(), start: wildConfig(w), shot: wildConfig(w), end: wildConfig(w), trail: wildTrail(w), id: odd(w), count: odd(w)}
		if w.Below(2) == 0 {
			p.count = w.Between(1, 4)
			p.trail = right.trail(p.count, 10)
		}
		if w.Below(3) == 0 {
			p.start = right.Config(p.plan, p.tapes, 3)
		}
		if w.Below(3) == 0 {
			p.count = pen.One(w.Pen, p.count+1, p.count-1, 12)
		}
		what := fmt.Sprintf("seed %d: id %d, %d tasks, %s", seed, p.id, p.count, pen.TellTrail(p.trail))
		for _, q := range []question{{"split", p.id}, {"path", p.id}, {what: "line"}} {
			calm(t, what+": "+q.what, func() {
				if _, why := sameAsModel(q, p.trail, p.count); why != "" {
					t.Fatalf("P18.1 to P18.6: seed %d: %s", seed, why)
				}
			})
		}
		calm(t, what+": prove", func() {
			got, want := p.by(program()), p.by(model())
			if got != want {
				t.Fatalf("P18.7: %s: Prove answers %s, want %s", what, errorTold(got), errorTold(want))
			}
			met[errorTold(got)]++
		})
	}
	wantCases(t, met, 100, "no shot", "no trail", "no run")
}

// TestLongTrails: far beyond what a script makes; every call ends soon.
func TestLongTrails(t *testing.T) {
	const lives = 1 << 17
	life := pen.ReadTrail("step 0.0, copy 0 1, step 0.1, ready 1, up 1")
	l := slices.Repeat(life, lives)
	all, e := program().line(l, 1)
	if e != api.OK || len(all) != lives || all[lives-1] != (api.Event{}) {
		t.Errorf("P18.5: over %d lives Line answers %d events, %s", lives, len(all), errorTold(e))
	}
	before, after, e := program().split(l, 1, 1)
	if e != api.OK || len(before) != 1 || len(after) != 1 {
		t.Errorf("P18.4: over %d lives Split answers %d and %d events, %s", lives, len(before), len(after), errorTold(e))
	}
	l[0].Kind = 0
	if _, e := program().line(l, 1); e != api.ErrWitTrail {
		t.Errorf("P18.1: of a long trail that can't be Line answers %s", errorTold(e))
	}
	long := slices.Concat(slices.Repeat(pen.ReadTrail("step 0.0, step 1.0"), 1<<18), pen.ReadTrail("copy 0 1"), slices.Repeat(pen.ReadTrail("step 0.0, step 1.0"), 1<<18), pen.ReadTrail("copy 1 1, ready 1, up 1"))
	before, after, e = program().split(long, 1, 2)
	if e != api.OK || len(before) != 3<<18 || len(after) != 1<<18 {
		t.Errorf("P18.4: of a long life Split answers %d and %d events, %s", len(before), len(after), errorTold(e))
	}
	if all, e := program().line(long, 2); e != api.OK || len(all) != 3<<18 {
		t.Errorf("P18.5: of a long life Line answers %d events, %s", len(all), errorTold(e))
	}
	if _, e := program().path(long, 1, 2); e != api.ErrWitRun {
		t.Errorf("P18.6: of a long life Path answers %s", errorTold(e))
	}
	ups := slices.Repeat(pen.ReadTrail("up 0"), 1<<18)
	if _, _, e := program().split(append(ups, pen.ReadTrail("copy 0 1, ready 1")...), 2, 1); e != api.ErrWitShot {
		t.Errorf("P18.4: of many empty lives Split answers %s", errorTold(e))
	}
}

// TestConfigurationsFarBeyondTheLimits: they are answered, and nothing panics.
func TestConfigurationsFarBeyondTheLimits(t *testing.T) {
	deep := api.Config{States: make([]api.State, 2), Lanes: [][]api.Record{{{Val: pen.Deep(1 << 15)}}}, Outs: make([][]api.Record, 1)}
	right := proof{line(), config(rightStart), config(rightShot), config(rightEnd), pen.ReadTrail(rightTrail), 1, 2}
	for _, c := range []api.Config{deep, {States: make([]api.State, 1<<16), Lanes: make([][]api.Record, 1<<16), Outs: make([][]api.Record, 1<<16)}} {
		p := right
		p.start = c
		p.wants(t, "P18.7", "no run")
		p = right
		p.shot = c
		p.wants(t, "P18.7", "no cut")
		p = right
		p.end = c
		p.wants(t, "P18.7", "no end")
	}
}
