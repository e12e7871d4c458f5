package witness_test

import (
	"fmt"
	"slices"
	"testing"

	"eddy/api"
	"eddy/pen"
)

// wholeFault tells where events, played from a configuration on, don't all happen or don't lead to another one.
func (g ground) wholeFault(from, to api.Config, l []api.Event) string {
	c, n, e := g.Replay(from, l)
	if n != len(l) || e != api.OK {
		return fmt.Sprint("of the events ", pen.TellEvents(l), " ", n, " can happen: error ", int(e))
	}
	if !g.Same(c, to) {
		return "the events " + pen.TellEvents(l) + " lead to " + pen.TellConfig(c) + ", want " + pen.TellConfig(to)
	}
	return ""
}

// proofFault tells where a shot of a run isn't shown right, by a trail that tells of it.
func (r *run) proofFault(s shot, l []api.Trail) string {
	if e := program().prove(r.Flow, r.start, s.cut, s.end, l, s.id, r.tasks()); e != api.OK {
		return fmt.Sprint("P18.8: Prove of ", s.id, " answers ", errorTold(e))
	}
	before, after, e := program().split(l, s.id, r.tasks())
	if e != api.OK {
		return "P18.4: Split answers " + errorTold(e)
	}
	if why := r.wholeFault(r.start, s.cut, before); why != "" {
		return "P18.8: from the start to the shot: " + why
	}
	if why := r.wholeFault(s.cut, s.end, after); why != "" {
		return "P18.8: from the shot to the end: " + why
	}
	return ""
}

// pathFault makes the exchanges that lead to a shot's two runs, one by one, plays each list on the way, and tells where that isn't as it should be; beside it, how many exchanges there are.
func (r *run) pathFault(s shot, l []api.Trail) (string, int) {
	places, e := program().path(l, s.id, r.tasks())
	if e != api.OK {
		return "P18.6: Path answers " + errorTold(e), 0
	}
	row := eventsUpTo(r.Trail(), s.id)
	if why := r.wholeFault(r.start, s.end, row); why != "" {
		return "P16.13: as it happened: " + why, 0
	}
	for n, at := range places {
		if at < 0 || at+1 >= len(row) {
			return fmt.Sprint("P18.6: exchange ", n, " is at ", at, " of ", len(row), " events"), 0
		}
		if row[at].Task == row[at+1].Task {
			return fmt.Sprint("P18.9: exchange ", n, " of events of task ", row[at].Task, " at ", at, " of ", pen.TellEvents(row)), 0
		}
		row[at], row[at+1] = row[at+1], row[at]
		if why := r.wholeFault(r.start, s.end, row); why != "" {
			return fmt.Sprint("P18.9: behind exchange ", n, ": ", why), 0
		}
	}
	before, after, _ := program().split(l, s.id, r.tasks())
	if !slices.Equal(row, slices.Concat(before, after)) {
		return fmt.Sprint("P18.6: the exchanges ", places, " lead to ", pen.TellEvents(row), ", want ", pen.TellEvents(before), " and ", pen.TellEvents(after)), 0
	}
	return "", len(places)
}

// TestRunsOfARunner: every shot of drawn runs in all modes is shown right, and its two runs are reached by exchanges, all of which are runs.
func TestRunsOfARunner(t *testing.T) {
	met := map[string]int{}
	for seed := range 900 {
		for mode := api.Aligned; mode <= api.Overtaking; mode++ {
			w := seeded(seed)
			r := w.played(mode)
			l := r.Trail()
			for _, s := range r.shots {
				why := r.proofFault(s, l)
				exchanges := 0
				if why == "" {
					why, exchanges = r.pathFault(s, l)
				}
				if why != "" {
					t.Fatalf("seed %d: %v: %s", seed, r, why)
				}
				r.tally(met, s, exchanges)
			}
		}
	}
	for mode := api.Aligned; mode <= api.Overtaking; mode++ {
		for _, one := range []string{"a shot", "in the middle", "no exchange", "some exchanges", "many exchanges", "unlike the end"} {
			wantCases(t, met, 30, fmt.Sprint("mode ", mode, ": ", one))
		}
	}
}

// tally counts what a shot is like.
func (r *run) tally(met map[string]int, s shot, exchanges int) {
	meet := func(word string) { met[fmt.Sprint("mode ", r.mode, ": ", word)]++ }
	meet("a shot")
	if !r.Same(r.start, r.Start()) {
		meet("in the middle")
	}
	if !r.Same(s.cut, s.end) {
		meet("unlike the end")
	}
	switch {
	case exchanges == 0:
		meet("no exchange")
	case exchanges < 10:
		meet("some exchanges")
	default:
		meet("many exchanges")
	}
}

// TestProofsWhileTheRunGoesOn: at the moment at which a shot is ready, and at all times behind it, also when others are under way.
func TestProofsWhileTheRunGoesOn(t *testing.T) {
	count := 0
	for seed := range 60 {
		for mode := api.Aligned; mode <= api.Overtaking; mode++ {
			w := seeded(seed)
			r := w.begun(w.ground(), mode)
			p := w.pace(r.ground)
			for range 120 * r.tasks() {
				if !p.step(r) && w.Below(20) > 0 {
					continue
				}
				for _, s := range r.shots {
					count++
					if why := r.proofFault(s, r.Trail()); why != "" {
						t.Fatalf("seed %d: %v: %s", seed, r, why)
					}
				}
			}
		}
	}
	if count < 1000 {
		t.Errorf("%d proofs", count)
	}
}

// TestTheRunnersExamples: the shots of chapter 16's examples 1 and 2.
func TestTheRunnersExamples(t *testing.T) {
	for _, x := range []struct {
		mode        int
		picks, want string
	}{
		{api.Recorded, "0.0 1.0 0.0 1.0", "split 1 = 0.0 1.0 | 0.0"},
		{api.Overtaking, "0.0 1.0 1.0 0.0", "split 1 = 0.0 | 1.0 0.0"},
	} {
		g := line()
		r := g.begins(x.mode, g.Start(), 1)
		r.Pick(0, 0)
		r.Trigger()
		for _, e := range pen.ReadEvents(x.picks) {
			r.Pick(e.Task, e.Port)
		}
		r.post()
		if !r.post() {
			t.Fatalf("mode %d: the shot isn't ready", x.mode)
		}
		r.Pick(1, 0)
		wants(t, "P18.4", pen.TellTrail(r.Trail()), 2, x.want, "path 1 =", "line = 0.0 1.0 0.0 1.0")
		if why := r.proofFault(r.shots[0], r.Trail()); why != "" {
			t.Errorf("mode %d: %s", x.mode, why)
		}
	}
}
