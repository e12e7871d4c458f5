package pen_test

import (
	"fmt"
	"testing"

	"eddy/api"
	"eddy/pen"
)

// TestSteps: the same ones for the same seed; a machine that is down is let come up; a spoil is drawn only where it is asked for.
func TestSteps(t *testing.T) {
	sh := api.Shape{Order: []int{1, 0, 2}, Ins: [][]int{{0}, {}, {1, 2}}}
	met := map[int]int{}
	for seed := range 100 {
		a, b := pen.SeededSteps(seed), pen.SeededSteps(seed)
		a.At(sh)
		b.At(sh)
		a.Spoil, b.Spoil = seed%2 == 0, seed%2 == 0
		if got := fmt.Sprint(a.Picks); got != "[{1 1 0 []} {1 0 0 []} {1 2 0 []} {1 2 1 []}]" {
			t.Fatalf("the picks are %s", got)
		}
		if round := a.Round(); len(round) != 5 || fmt.Sprint(round) != fmt.Sprint(b.Round()) {
			t.Fatalf("seed %d: a round is %v", seed, round)
		}
		for n := range 100 {
			s := api.Status{Up: n%9 > 0, Under: n % 2}
			op := a.Step(s)
			if fmt.Sprint(op) != fmt.Sprint(b.Step(s)) {
				t.Fatalf("seed %d: step %d isn't the same again", seed, n)
			}
			if op.Kind == api.OpSpoil && !a.Spoil || !s.Up && op.Kind != api.OpRecover && op.Kind != api.OpSpoil {
				t.Fatalf("seed %d: %v is drawn, the status being %v", seed, op, s)
			}
			met[op.Kind]++
		}
	}
	for kind := api.OpPick; kind <= api.OpRecover; kind++ {
		if met[kind] < 20 {
			t.Errorf("a step of kind %d is drawn %d times", kind, met[kind])
		}
	}
}

// TestHarmed: something is other behind it, in most cases, and the files are still such as a disk may hold.
func TestHarmed(t *testing.T) {
	told := map[string]int{}
	for seed := range 300 {
		p := pen.Seeded(seed)
		files := p.Harmed([]api.File{{Name: "a", Data: []byte{1, 2, 3}, Synced: 2}, {Name: "b"}})
		for _, f := range files {
			if f.Synced < 0 || f.Synced > len(f.Data) {
				t.Fatalf("seed %d: %v", seed, files)
			}
		}
		told[fmt.Sprint(files)]++
	}
	if len(told) < 30 || len(pen.Seeded(1).Harmed(nil)) != 1 {
		t.Errorf("%d ways to harm two files are drawn", len(told))
	}
}
