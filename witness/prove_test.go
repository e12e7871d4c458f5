package witness_test

import (
	"fmt"
	"slices"
	"strings"
	"testing"

	"eddy/api"
	"eddy/fresh"
	"eddy/pen"
)

// config reads a configuration: states, lanes and outputs with a # between.
func config(text string) api.Config {
	all := strings.Split(text, "#")
	return pen.ReadConfig(strings.TrimSpace(all[0]), strings.TrimSpace(all[1]), strings.TrimSpace(all[2]))
}

// A proof is what Prove is handed.
type proof struct {
	ground
	start, shot, end api.Config
	trail            []api.Trail
	id, count        int
}

func (p proof) by(r reading) api.Errno {
	return r.prove(p.Flow, p.start, p.shot, p.end, p.trail, p.id, p.count)
}

func (p proof) String() string {
	return fmt.Sprintf("%v from %s over %s to %s by %s of %d with %d tasks", p.ground, pen.TellConfig(p.start), pen.TellConfig(p.shot), pen.TellConfig(p.end), pen.TellTrail(p.trail), p.id, p.count)
}

// wants fails the test where Prove, or the model of it, answers another error.
func (p proof) wants(t *testing.T, promise string, want string) {
	t.Helper()
	for _, r := range []reading{program(), model()} {
		if got := errorTold(p.by(r)); got != want {
			t.Errorf("%s%s: Prove of %v answers %s, want %s", r.name, promise, p, got, want)
		}
	}
}

// The right proof of a source and a sink: before 0.0 1.0, after 0.0.
const (
	rightStart = "0 / 0 # #"
	rightShot  = "1 / 1 # # a=1"
	rightEnd   = "2 / 1 # b=2 # a=1"
	rightTrail = "step 0.0, copy 0 1, step 0.0, step 1.0, copy 1 1, ready 1, step 1.0"
)

// TestProve: each error, ahead of the next one.
func TestProve(t *testing.T) {
	for _, x := range []struct {
		start, shot, end, trail string
		id, tasks               int
		want                    string
	}{
		{rightStart, rightShot, rightEnd, rightTrail, 1, 2, "ok"},
		// Split's errors are ahead of all, whatever the configurations are.
		{"9 # #", "9 # #", "9 # #", rightTrail, 1, 0, "no trail"},
		{"9 # #", "9 # #", "9 # #", rightTrail, 1, 13, "no trail"},
		{"9 # #", "9 # #", "9 # #", rightTrail + ", {0 0 0 0}", 1, 2, "no trail"},
		{"9 # #", "9 # #", "9 # #", rightTrail, 2, 2, "no shot"},
		{"9 # #", "9 # #", "9 # #", "", 1, 2, "no shot"},
		{"9 # #", "9 # #", "9 # #", "step 0.0, copy 0 1, ready 1", 1, 2, "no trail"},
		{"9 # #", "9 # #", "9 # #", rightTrail, 1, 3, "no trail"},
		{"9 # #", "9 # #", "9 # #", rightTrail, 1, 1, "no trail"},
		// A start that isn't one of the plan's, also where no event is before.
		{"0 # #", "9 # #", "9 # #", rightTrail, 1, 2, "no run"},
		{"0 / 0 / 0 # #", rightShot, rightEnd, rightTrail, 1, 2, "no run"},
		{"0 / 0 # / #", rightShot, rightEnd, rightTrail, 1, 2, "no run"},
		{"0 / 0 # # /", rightShot, rightEnd, rightTrail, 1, 2, "no run"},
		{"3 / 0 # #", "3 / 0 # #", "3 / 0 # #", "copy 0 1, copy 1 1, ready 1", 1, 2, "no run"},
		{"0 / 1 # #", "0 / 1 # #", "0 / 1 # #", "copy 0 1, copy 1 1, ready 1", 1, 2, "no run"},
		{"0 / 0 # thirteenbytes=1 #", "0 / 0 # thirteenbytes=1 #", "0 / 0 # thirteenbytes=1 #", "copy 0 1, copy 1 1, ready 1", 1, 2, "no run"},
		// Before events that can't all happen: nothing to take, no such port, no such task; the last one alone.
		{"2 / 0 # #", "9 # #", "9 # #", rightTrail, 1, 2, "no run"},
		{rightStart, rightShot, rightEnd, "step 1.0, copy 0 1, step 0.0, copy 1 1, ready 1", 1, 2, "no run"},
		{rightStart, rightShot, rightEnd, "step 0.0, step 1.0, step 1.1, copy 0 1, copy 1 1, ready 1", 1, 2, "no run"},
		{rightStart, rightShot, rightEnd, "step 0.0, step 1.0, step 0.3, copy 0 1, copy 1 1, ready 1", 1, 2, "no run"},
		{rightStart, rightShot, rightEnd, "step 0.0, step 1.0, step 2.0, copy 0 1, copy 1 1, copy 2 1, ready 1", 1, 3, "no run"},
		{rightStart, rightShot, rightEnd, "step 0.0, step 1.0, step 1.0, copy 0 1, copy 1 1, ready 1", 1, 2, "no run"},
		{rightStart, rightShot, rightEnd, "step 0.0, step 0.0, step 0.0, copy 0 1, copy 1 1, ready 1", 1, 2, "no run"},
		// Another shot, also where it isn't one of the plan's, and where the after events can't happen.
		{rightStart, rightStart, rightEnd, rightTrail, 1, 2, "no cut"},
		{rightStart, rightEnd, rightEnd, rightTrail, 1, 2, "no cut"},
		{rightStart, "9 # #", "9 # #", rightTrail, 1, 2, "no cut"},
		{rightStart, rightStart, "9 # #", "step 0.0, copy 0 1, step 0.0, step 0.0, step 1.0, copy 1 1, ready 1", 1, 2, "no cut"},
		{"0 / 0 # c=3 #", rightShot, rightEnd, rightTrail, 1, 2, "no cut"},
		// After events that can't all happen, ahead of another end.
		{rightStart, rightShot, "9 # #", "step 0.0, copy 0 1, step 0.0, step 0.0, step 1.0, copy 1 1, ready 1", 1, 2, "no run"},
		{rightStart, rightShot, rightEnd, "step 0.0, copy 0 1, step 0.0, step 0.0, step 1.0, copy 1 1, ready 1", 1, 2, "no run"},
		{rightStart, rightShot, rightEnd, "step 0.0, copy 0 1, step 0.0, step 1.0, copy 1 1, step 1.3, ready 1", 1, 2, "no run"},
		{rightStart, rightShot, rightEnd, "step 0.0, copy 0 1, step 1.0, copy 1 1, step 1.0, step 0.0, ready 1", 1, 2, "no run"},
		// Another end.
		{rightStart, rightShot, rightShot, rightTrail, 1, 2, "no end"},
		{rightStart, rightShot, rightStart, rightTrail, 1, 2, "no end"},
		{rightStart, rightShot, "9 # #", rightTrail, 1, 2, "no end"},
		{rightStart, rightShot, "2 / 2 # # a=1 | b=2", rightTrail, 1, 2, "no end"},
		// No events at all, and a run from the middle.
		{rightStart, rightStart, rightStart, "copy 0 1, copy 1 1, ready 1", 1, 2, "ok"},
		{"1 / 1 # c=3 # d=4", "1 / 2 # # d=4 | c=3", "2 / 2 # b=2 # d=4 | c=3", "copy 0 7, step 0.0, step 1.0, copy 1 7, ready 7", 7, 2, "ok"},
		// Of several lives the last in which it is ready counts: it begins at the start.
		{rightStart, rightShot, rightEnd, "step 1.3, copy 0 1, copy 1 1, ready 1, up 0, " + rightTrail + ", up 1, step 1.3", 1, 2, "ok"},
		{rightShot, rightEnd, rightEnd, rightTrail + ", up 1, step 0.0, copy 0 2, copy 1 2, ready 2, step 1.0", 2, 2, "ok"},
		{rightStart, rightShot, rightEnd, rightTrail + ", up 1, copy 0 1, copy 1 1, ready 1", 1, 2, "no cut"},
	} {
		proof{line(), config(x.start), config(x.shot), config(x.end), pen.ReadTrail(x.trail), x.id, x.tasks}.wants(t, "P18.7", x.want)
	}
	none := api.Config{}
	proof{line(), none, none, none, pen.ReadTrail(rightTrail), 1, 2}.wants(t, "P18.7", "no run")
	proof{line(), config(rightStart), none, none, pen.ReadTrail(rightTrail), 1, 2}.wants(t, "P18.7", "no cut")
	proof{line(), config(rightStart), config(rightShot), none, pen.ReadTrail(rightTrail), 1, 2}.wants(t, "P18.7", "no end")
}

// recordsElse gives lists of records that differ from a list at one place.
func recordsElse(l []api.Record) [][]api.Record {
	all := [][]api.Record{append(fresh.Records(l), api.Record{})}
	change := func(at int, how func(r *api.Record)) {
		other := fresh.Records(l)
		how(&other[at])
		all = append(all, other)
	}
	for at := range l {
		all = append(all, slices.Delete(fresh.Records(l), at, at+1))
		change(at, func(r *api.Record) { r.Key += "x" })
		change(at, func(r *api.Record) { r.Val = api.Value{Kind: api.List, Items: []api.Value{r.Val}} })
		change(at, func(r *api.Record) { r.Loops = append(r.Loops, 0) })
	}
	return all
}

// statesElse gives states that differ from a state at one place.
func statesElse(s api.State) []api.State {
	all := []api.State{{Num: s.Num + 1, Cells: s.Cells}, {Num: s.Num, Cells: append(fresh.State(s).Cells, api.Cell{Key: "z"})}}
	for at := range s.Cells {
		for how := range 4 {
			other := fresh.State(s)
			switch how {
			case 0:
				other.Cells = slices.Delete(other.Cells, at, at+1)
			case 1:
				other.Cells[at].Key += "x"
			case 2:
				other.Cells[at].Vals = append(other.Cells[at].Vals, api.Value{})
			case 3:
				other.Cells[at].Vals = []api.Value{{Kind: api.Text, Text: "another"}}
			}
			all = append(all, other)
		}
	}
	return all
}

// configsElse gives configurations that differ from one at one place.
func configsElse(c api.Config) []api.Config {
	var all []api.Config
	change := func(how func(other *api.Config)) {
		other := fresh.Config(c)
		how(&other)
		all = append(all, other)
	}
	change(func(other *api.Config) { other.States = append(other.States, api.State{}) })
	change(func(other *api.Config) { other.Lanes = append(other.Lanes, nil) })
	change(func(other *api.Config) { other.Outs = append(other.Outs, nil) })
	if len(c.States) > 0 {
		change(func(other *api.Config) { other.States = other.States[1:] })
	}
	if len(c.Lanes) > 0 {
		change(func(other *api.Config) { other.Lanes = other.Lanes[1:] })
	}
	if len(c.Outs) > 0 {
		change(func(other *api.Config) { other.Outs = other.Outs[1:] })
	}
	for k, s := range c.States {
		for _, state := range statesElse(s) {
			change(func(other *api.Config) { other.States[k] = state })
		}
	}
	for k, l := range c.Lanes {
		for _, records := range recordsElse(l) {
			change(func(other *api.Config) { other.Lanes[k] = records })
		}
	}
	for k, l := range c.Outs {
		for _, records := range recordsElse(l) {
			change(func(other *api.Config) { other.Outs[k] = records })
		}
	}
	return all
}

// proofOf gives the right proof of a run's shot.
func (r *run) proofOf(s shot) proof {
	return proof{r.ground, r.start, s.cut, s.end, r.Trail(), s.id, r.tasks()}
}

// TestOnePlaceThatDiffers: of the shot, of the end, and of the start.
func TestOnePlaceThatDiffers(t *testing.T) {
	met := map[string]int{}
	for seed := range 30 {
		for mode := api.Aligned; mode <= api.Overtaking; mode++ {
			w := seeded(seed)
			r := w.played(mode)
			if len(r.shots) == 0 {
				continue
			}
			right := r.proofOf(r.shots[len(r.shots)-1])
			for _, other := range configsElse(right.shot) {
				p := right
				if p.shot = other; p.by(program()) != api.ErrWitCut {
					t.Fatalf("P18.7: seed %d: another shot: Prove of %v answers %s", seed, p, errorTold(p.by(program())))
				}
				met["shots"]++
			}
			for _, other := range configsElse(right.end) {
				p := right
				if p.end = other; p.by(program()) != api.ErrWitEnd {
					t.Fatalf("P18.7: seed %d: another end: Prove of %v answers %s", seed, p, errorTold(p.by(program())))
				}
				met["ends"]++
			}
			others := configsElse(right.start)
			for range 20 {
				p := right
				p.start = others[w.Below(len(others))]
				got, want := p.by(program()), p.by(model())
				if got != want {
					t.Fatalf("P18.7: seed %d: another start: Prove of %v answers %s, want %s", seed, p, errorTold(got), errorTold(want))
				}
				met["starts: "+errorTold(got)]++
			}
		}
	}
	wantCases(t, met, 1000, "shots", "ends")
	wantCases(t, met, 100, "starts: no run", "starts: no cut")
}

// spoiltProof changes a proof at one or two places.
func (w *writer) spoiltProof(p proof) proof {
	for range w.Between(1, 2) {
		end := slices.Index(p.trail, api.Trail{Kind: api.TrailReady, Id: p.id})
		switch w.Below(8) {
		case 0:
			all := configsElse(p.start)
			p.start = all[w.Below(len(all))]
		case 1:
			p.start = w.Config(p.plan, p.tapes, 2)
		case 2:
			all := configsElse(p.shot)
			p.shot = all[w.Below(len(all))]
		case 3:
			all := configsElse(p.end)
			p.end = all[w.Below(len(all))]
		case 4:
			p.trail = w.spoilt(slices.Clone(p.trail), p.tasks())
		case 5:
			step := api.Trail{Kind: api.TrailStep, Task: w.Below(p.tasks()), Port: w.Below(2)}
			p.trail = slices.Insert(slices.Clone(p.trail), max(end, 0), step)
		case 6:
			p.id += pen.One(w.Pen, -1, 1)
		case 7:
			p.count += pen.One(w.Pen, -1, 1, -20, 20)
		}
	}
	return p
}

// TestDrawnProofs: right ones and spoilt ones, held against the model.
func TestDrawnProofs(t *testing.T) {
	met := map[string]int{}
	for seed := range 500 {
		w := seeded(seed)
		r := w.played(w.Between(1, 3))
		for _, s := range r.shots {
			for range 4 {
				p := r.proofOf(s)
				if w.Below(8) > 0 {
					p = w.spoiltProof(p)
				}
				got, want := p.by(program()), p.by(model())
				if got != want {
					t.Fatalf("P18.7: seed %d: Prove of %v answers %s, want %s", seed, p, errorTold(got), errorTold(want))
				}
				met[errorTold(got)]++
			}
		}
	}
	wantCases(t, met, 50, "ok", "no shot", "no trail", "no run", "no cut", "no end")
}
