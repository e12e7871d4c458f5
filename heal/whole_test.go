package heal_test

import (
	"fmt"
	"slices"
	"testing"

	"eddy/api"
	"eddy/equal"
	"eddy/flow"
	"eddy/heal"
	"eddy/pen"
	"eddy/runner"
)

// A stay is what should stand in the store: a shot's number, and the cut that the tasks' copies made.
type stay struct {
	id  int
	cut api.Config
}

// A life is a runner over a store, from one coming up to the next fall.
type life struct {
	store
	*runner.Runner
	mode      int
	flow      *flow.Flow
	start     api.Config
	committed [][]api.Record
	stays     []stay
	met       map[string]int
}

func newLife(s store, mode int, met map[string]int) *life {
	l := &life{store: s, mode: mode, flow: s.flow(), met: met}
	l.committed = make([][]api.Record, len(s.sh.Sinks))
	return l
}

func (l *life) meet(words ...any) { l.met[fmt.Sprint("mode ", l.mode, ": ", fmt.Sprint(words...))]++ }

// comesUp looks for the newest shot and begins there; it tells what is wrong. All outputs of a configuration count as committed then.
func (l *life) comesUp() string {
	want := stay{cut: l.flow.Start()}
	for _, s := range l.stays {
		if s.id > want.id {
			want = s
		}
	}
	got, e, why := l.newestFault(l.committed)
	if why != "" {
		return why
	}
	if e != api.OK || got.Id != want.id || !equal.Config(got.Config, want.cut) {
		return fmt.Sprint("P17.6: Newest answers ", foundTold(got, e), ", ", pen.TellConfig(got.Config), ", want ", want.id, ", ", pen.TellConfig(want.cut))
	}
	l.meet("comes up at a shot: ", got.Id > 0)
	l.start, l.committed = got.Config, slices.Clone(got.Config.Outs)
	l.Runner, e = runner.New(l.plan, l.tapes, l.mode, l.start, l.Next(), heal.Sum(l.plan, l.tapes))
	if e != api.OK {
		return fmt.Sprint("P17.8: a runner refuses the configuration ", pen.TellConfig(l.start), ": error ", int(e))
	}
	return ""
}

// cutOf gives the cut that the tasks' copies made: what the steps ahead of them lead to in the marker-free system.
func (l *life) cutOf(id int) (api.Config, bool) {
	copied := map[int]bool{}
	var before []api.Event
	for _, e := range l.Trail() {
		switch {
		case e.Kind == api.TrailCopy && e.Id == id:
			copied[e.Task] = true
		case e.Kind == api.TrailStep && !copied[e.Task]:
			before = append(before, api.Event{Task: e.Task, Port: e.Port})
		}
	}
	c, n, e := l.flow.Replay(l.start, before)
	return c, n == len(before) && e == api.OK
}

// ready stores a shot that got ready, loads it again, and holds it against the cut; it tells what is wrong.
func (l *life) ready(w *writer, s api.Shot) string {
	cut, ok := l.cutOf(s.Id)
	if !ok {
		return "P16.14: the steps ahead of the copies can't happen"
	}
	if w.Below(6) == 0 {
		l.Settle(s.Id, false)
		return ""
	}
	if err := l.Save(s); err != nil {
		l.meet("too great to be stored")
		l.Settle(s.Id, false)
		return ""
	}
	loaded, err := l.Load(s.Id)
	if err != nil || !equal.Shot(loaded, s) {
		return fmt.Sprint("P12.11: Load answers ", shotTold(loaded), ", ", err)
	}
	if e := heal.Fits(l.plan, l.sh, l.tapes, loaded); e != api.OK {
		return fmt.Sprint("P17.6: ", shotTold(loaded), " doesn't fit: ", errorTold(e))
	}
	if why := l.shotFault(loaded, cut); why != "" {
		return why
	}
	l.tally(loaded)
	l.stays = append(l.stays, stay{s.Id, cut})
	l.Settle(s.Id, true)
	if w.Below(3) > 0 {
		l.commit(cut.Outs)
	}
	return ""
}

// shotFault tells where a shot isn't its cut, with the outputs that were committed by then, with all of them, and with one record too few.
func (l *life) shotFault(s api.Shot, cut api.Config) string {
	for _, outs := range [][][]api.Record{l.committed, cut.Outs, l.Runner.Config().Outs} {
		c, e := heal.Config(l.plan, l.sh, s, outs)
		if e != api.OK || !equal.Config(c, cut) {
			return fmt.Sprint("P17.6: Config of ", shotTold(s), " with the outputs ", pen.TellLists(outs), " answers ", pen.TellConfig(c), ", ", errorTold(e), ", the cut is ", pen.TellConfig(cut))
		}
		if e := l.flow.Fits(c); e != api.OK {
			return fmt.Sprint("P17.8: ", pen.TellConfig(c), " isn't one of the plan's")
		}
	}
	for k, sink := range l.sh.Sinks {
		n := s.Parts[sink].State.Num - len(s.Parts[sink].Pend)
		if n == 0 {
			continue
		}
		outs := slices.Clone(cut.Outs)
		outs[k] = outs[k][:n-1]
		if _, e := heal.Config(l.plan, l.sh, s, outs); e != api.ErrHealOuts {
			return fmt.Sprint("P17.3: with too little output Config answers ", errorTold(e))
		}
	}
	for _, other := range []ground{unlike(l.ground), {plan: l.plan, sh: l.sh, tapes: append(slices.Clone(l.tapes), nil)}} {
		if e := heal.Fits(other.plan, other.sh, other.tapes, s); e != api.ErrHealSum {
			return fmt.Sprint("P17.7: of another plan or other tapes Fits answers ", errorTold(e))
		}
	}
	return ""
}

// tally counts what a shot is like.
func (l *life) tally(s api.Shot) {
	l.meet("a shot")
	for task, p := range s.Parts {
		for port, log := range p.Logs {
			if len(log) > 0 {
				l.meet("a log, back: ", l.sh.Back[l.sh.Ins[task][port]])
			}
		}
		if l.plan.Tasks[task].Kind == api.Sink && len(p.Pend) > 0 {
			l.meet("pending output, committed: ", p.State.Num > len(p.Pend))
		}
	}
}

// commit lets outputs be committed.
func (l *life) commit(outs [][]api.Record) {
	var counts []int
	for k, out := range outs {
		if len(out) > len(l.committed[k]) {
			l.committed[k] = slices.Clone(out)
		}
		counts = append(counts, len(l.committed[k]))
	}
	l.Commit(counts)
}

// plays makes so many drawn calls, in rounds of picks that favour none; it tells what is wrong.
func (l *life) plays(w *writer, calls int) string {
	for range calls {
		switch n := w.Below(40); {
		case n < 3:
			l.Trigger()
		case n == 3 && w.Below(4) == 0:
			l.Abort()
		case n < 12:
			s, did := l.Post()
			if did != api.DidReady {
				continue
			}
			if why := l.ready(w, s); why != "" {
				return why
			}
		default:
			task := w.Below(len(l.plan.Tasks))
			l.Pick(task, w.Below(max(1, len(l.sh.Ins[task]))))
		}
	}
	return ""
}

// falls lets the machine fall; at times a file of the newest shot is spoilt by that, and what isn't needed is taken away.
func (l *life) falls(w *writer) {
	if w.Below(4) == 0 && l.Prune() == nil {
		l.stays = l.stays[max(0, len(l.stays)-api.KeepShots):]
		l.meet("pruned")
	}
	if n := len(l.stays); n > 0 && w.Below(4) == 0 {
		name := fmt.Sprintf("seg-%04d-%02d", l.stays[n-1].id, w.Below(len(l.plan.Tasks)))
		l.Spoil(name, 40)
		l.stays = l.stays[:n-1]
		l.meet("spoilt")
	}
	l.Crash()
	l.Restart(nil)
}

// TestLives: runs in all modes whose shots are stored and loaded again, and begin again at the newest of them.
func TestLives(t *testing.T) {
	met := map[string]int{}
	for seed := range 500 {
		for mode := api.Aligned; mode <= api.Overtaking; mode++ {
			w := seeded(seed)
			l := newLife(begun(w.ground()), mode, met)
			for n := range 4 {
				why := l.comesUp()
				if why == "" {
					why = l.plays(w, w.Between(20, 60*len(l.plan.Tasks)))
				}
				if why != "" {
					t.Fatalf("seed %d, mode %d, life %d: %v: %s", seed, mode, n, l.ground, why)
				}
				l.falls(w)
			}
		}
	}
	for mode := api.Aligned; mode <= api.Overtaking; mode++ {
		for _, one := range []string{"a shot", "comes up at a shot: true", "comes up at a shot: false", "pending output, committed: true", "pending output, committed: false", "spoilt", "pruned"} {
			wantCases(t, met, 50, fmt.Sprint("mode ", mode, ": ", one))
		}
		wantCases(t, met, 8, fmt.Sprint("mode ", mode, ": a log, back: true"))
	}
	wantCases(t, met, 50, "mode 2: a log, back: false", "mode 3: a log, back: false")
	if met["mode 1: a log, back: false"] > 0 {
		t.Error("P16: in mode Aligned a regular port has a log")
	}
}

// TestTheRunnersFirstExample: the shot of chapter 16's first example in each mode, stored and loaded, and its configuration.
func TestTheRunnersFirstExample(t *testing.T) {
	for mode, want := range map[int]string{2: "1 / 1 # # a=1", 3: "1 / 0 # a=1 #"} {
		s := begun(line())
		r, e := runner.New(s.plan, s.tapes, mode, s.flow().Start(), 1, heal.Sum(s.plan, s.tapes))
		if e != api.OK {
			t.Fatalf("no runner: error %d", e)
		}
		r.Pick(0, 0)
		r.Trigger()
		r.Pick(0, 0)
		r.Pick(1, 0)
		r.Pick(1, 0)
		r.Post()
		shot, did := r.Post()
		if did != api.DidReady {
			t.Fatalf("mode %d: the shot isn't ready: %d", mode, did)
		}
		s.saved(t, 1, shot)
		s.wants(t, "P17.6", nil, "1:")
		if f, _ := heal.Newest(s.Vault, s.plan, s.sh, s.tapes, nil); spaced(pen.TellConfig(f.Config)) != spaced(want) {
			t.Errorf("P17.6: mode %d: the configuration is %s, want %s", mode, pen.TellConfig(f.Config), want)
		}
	}
}
