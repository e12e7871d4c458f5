package runner_test

import (
	"fmt"
	"math"
	"testing"

	"eddy/api"
	"eddy/equal"
	"eddy/pen"
)

// TestTrigger: what the coordinator answers; with OK a marker for every source, and an entry.
func TestTrigger(t *testing.T) {
	k := kindOf(pair(), "a=1 / x=1")
	inModes(t, "P16.6", allModes, k.from(7), "trigger = 7", "trail = trigger 7", "trigger = under", "trigger = under", "trail = trigger 7", "1.0 = mark", "1.0 = step", "0.0 = mark", "0.0 = step", "1.0 = empty", "0.0 = empty",
		"trail = trigger 7, mark 1.0 7, copy 1 7, part 1 7, step 1.0, mark 0.0 7, copy 0 7, part 0 7, step 0.0")
	// Those that follow one another stand in the control lanes in their order.
	inModes(t, "P16.6", allModes, k, "trigger = 1", "abort = 1", "trigger = 2", "trigger = under", "abort = 2", "trigger = 3", "0.0 = mark", "0.0 = mark", "1.0 = mark", "0.0 = mark", "0.0 = step", "1.0 = mark", "1.0 = mark", "1.0 = step",
		"trail = trigger 1, abort 1, trigger 2, abort 2, trigger 3, mark 0.0 1, copy 0 1, part 0 1, mark 0.0 2, copy 0 2, part 0 2, mark 1.0 1, copy 1 1, part 1 1, mark 0.0 3, copy 0 3, part 0 3, step 0.0, mark 1.0 2, copy 1 2, part 1 2, mark 1.0 3, copy 1 3, part 1 3, step 1.0")
	inModes(t, "P16.6", allModes, k.from(9999), "trigger = 9999", "abort = 9999", "trigger = ids", "trigger = ids", "trail = trigger 9999, abort 9999", "0.0 = mark", "0.0 = step")
	inModes(t, "P16.6", allModes, k.from(10000), "trigger = ids", "0.0 = step", "trail = step 0.0")
}

// TestATriggerBehindEachEnd: of a snapshot that is ready, complete or given up.
func TestATriggerBehindEachEnd(t *testing.T) {
	k := kindOf(line(), "")
	shoot := func(id int) []string {
		return []string{fmt.Sprint("trigger = ", id), "0.0 = mark", "1.0 = mark", "trigger = under", "post = ack", "trigger = under", fmt.Sprint("post = ready: ", id, " 77 {0} {0 []}")}
	}
	lines := append(shoot(1), shoot(2)...)
	lines = append(append(lines, "settle 1 yes = ok"), shoot(3)...)
	lines = append(append(lines, "settle 3 no = ok"), shoot(4)...)
	inModes(t, "P16.6", allModes, k, append(append(lines, "trigger = 5", "0.0 = mark", "1.0 = mark", "abort = 5"), shoot(6)...)...)
}

// TestPost: the shot beside each number, and what is written into the trail.
func TestPost(t *testing.T) {
	k := kindOf(line(), "a=1")
	inModes(t, "P16.7", allModes, k, "post = empty", "trail = ", "trigger = 1", "post = empty", "0.0 = mark", "trail = trigger 1, mark 0.0 1, copy 0 1, part 0 1", "post = ack", "post = empty", "1.0 = mark", "trail = trigger 1, mark 0.0 1, copy 0 1, part 0 1, mark 1.0 1, copy 1 1, part 1 1",
		"post = ready: 1 77 {0} {0 []}", "trail = trigger 1, mark 0.0 1, copy 0 1, part 0 1, mark 1.0 1, copy 1 1, part 1 1, ready 1", "post = empty", "trail = trigger 1, mark 0.0 1, copy 0 1, part 0 1, mark 1.0 1, copy 1 1, part 1 1, ready 1")
	// The parts stand by task, in whatever order they came.
	f := kindOf(fork(), "a=1").in(api.Recorded)
	plays(t, "P16.7", f, "trigger = 1", "1.0 = mark", "3.0 = mark", "1.0 = step", "3.0 = step", "4.0 = mark", "0.0 = mark", "2.0 = mark", "post = ack", "post = ack", "post = ack", "post = ack", "post = ready: 1 77 {0 []} {0} {0 []} {0 []} {0 []}", "config = 0 / 1 / 0 / 0 / 0 # a=1 / / a=1 / a=1 # / /")
}

// TestAShotStays: what is done behind the copies changes nothing of it, nor does a later shot.
func TestAShotStays(t *testing.T) {
	k := kindOf(line(), "a=1 | b=2 | c=3").with(3)
	inModes(t, "P16.7", slowModes, k, "0.0 = step", "1.0 = step", "trigger = 1", "0.0 = mark", "0.0 = step", "1.0 = mark", "1.0 = step", "commit 2", "0.0 = step", "post = ack", "1.0 = step", "commit 0", "post = ready: 1 77 {1} {1 [] <a=1>}", "trigger = 2", "0.0 = mark", "1.0 = mark", "post", "post = ready: 2 77 {3} {3 [] <a=1 | b=2 | c=3>}")
}

// TestAbort: markers go on, parts are dropped, and the inbox is empty.
func TestAbort(t *testing.T) {
	k := kindOf(line(), "a=1").from(4)
	inModes(t, "P16.8", allModes, k, "abort = none", "trail = ", "trigger = 4", "abort = 4", "abort = none", "under = 0", "trail = trigger 4, abort 4", "0.0 = mark", "1.0 = mark", "1.0 = empty", "post = empty", "trail = trigger 4, abort 4, mark 0.0 4, copy 0 4, part 0 4, mark 1.0 4, copy 1 4, part 1 4")
	inModes(t, "P16.8", allModes, k, "trigger = 4", "0.0 = mark", "abort = 4", "post = empty", "trigger = 5", "post = empty", "under = 5 0 1", "1.0 = mark", "post = empty", "0.0 = mark", "1.0 = mark", "post = ack", "post = ready: 5 77 {0} {0 []}", "abort = none")
	inModes(t, "P16.8", allModes, k, "trigger = 4", "0.0 = mark", "1.0 = mark", "post = ack", "abort = 4", "post = empty", "under = 0", "trigger = 5", "under = 5 0 1", "0.0 = mark", "1.0 = mark", "post = ack", "post = ready: 5 77 {0} {0 []}")
	inModes(t, "P16.8", allModes, k, "trigger = 4", "0.0 = mark", "1.0 = mark", "post = ack", "post = ready: 4 77 {0} {0 []}", "abort = none", "trail = trigger 4, mark 0.0 4, copy 0 4, part 0 4, mark 1.0 4, copy 1 4, part 1 4, ready 4", "settle 4 yes = ok", "abort = none")
}

// TestSettle: a shot that is ready alone, and just once; nothing is written.
func TestSettle(t *testing.T) {
	k := kindOf(line(), "").from(3)
	ready := []string{"settle 3 yes = not ready", "trigger = 3", "settle 3 yes = not ready", "settle 3 no = not ready", "0.0 = mark", "1.0 = mark", "settle 3 yes = not ready", "post = ack", "post = ready: 3 77 {0} {0 []}"}
	trail := "trail = trigger 3, mark 0.0 3, copy 0 3, part 0 3, mark 1.0 3, copy 1 3, part 1 3, ready 3"
	for _, ok := range []string{"yes", "no"} {
		inModes(t, "P16.9", allModes, k, append(ready, "settle 4 "+ok+" = not ready", "settle 2 "+ok+" = not ready", "settle 0 "+ok+" = not ready", "settle -3 "+ok+" = not ready", "settle 9223372036854775807 "+ok+" = not ready", "settle -9223372036854775808 "+ok+" = not ready",
			"settle 3 "+ok+" = ok", "settle 3 yes = not ready", "settle 3 no = not ready", trail, "trigger = 4", "abort = 4", "settle 4 "+ok+" = not ready")...)
	}
	inModes(t, "P16.9", allModes, k, append(ready, "trigger = 4", "settle 3 no = ok", "0.0 = mark", "1.0 = mark", "post = ack", "post = ready: 4 77 {0} {0 []}", "settle 3 no = not ready", "settle 4 yes = ok")...)
}

// TestUnder: parts that wait aren't taken.
func TestUnder(t *testing.T) {
	k := kindOf(fork(), "a=1").from(9998)
	inModes(t, "P16.9", allModes, k, "under = 0", "trigger = 9998", "under = 9998 0 1 2 3 4", "1.0 = mark", "under = 9998 0 1 2 3 4", "post = ack", "under = 9998 0 2 3 4", "post = empty", "under = 9998 0 2 3 4", "3.0 = mark", "2.0 = mark", "4.0 = mark", "post = ack", "under = 9998 0 2 4", "post = ack", "under = 9998 0 4", "0.0 = mark", "post = ack", "under = 9998 0",
		"post = ready: 9998 77 {0 []} {0} {0 []} {0 []} {0 []}", "under = 0", "trigger = 9999", "under = 9999 0 1 2 3 4", "abort = 9999", "under = 0")
}

// rounds picks all ports of a runner of a kind, so many times.
func (k kind) rounds(r machine, count int) {
	for range count {
		for _, c := range k.model().picks() {
			c.of(r)
		}
	}
}

// shoot takes a snapshot of a runner whose lanes are empty.
func (k kind) shoot(t *testing.T, r machine) api.Shot {
	t.Helper()
	trail := len(r.Trail())
	if k.rounds(r, 1); len(r.Trail()) > trail {
		t.Fatalf("%v: the lanes aren't empty: %s", k, pen.TellTrail(r.Trail()[trail:]))
	}
	r.Trigger()
	k.rounds(r, len(k.plan.Tasks)+1)
	for range len(k.plan.Tasks) - 1 {
		r.Post()
	}
	s, did := r.Post()
	if did != api.DidReady {
		t.Fatalf("P16.7: %v: the last Post answers %s", k, didTold(did))
	}
	return s
}

// pends plays lines behind which the lanes are empty, and looks at the pending outputs of a shot then.
func pends(t *testing.T, k kind, want string, lines ...string) {
	t.Helper()
	for mode := 1; mode <= 3; mode++ {
		k := k.in(mode)
		r := k.open(t)
		for _, l := range lines {
			called(l).of(r)
		}
		var got [][]api.Record
		for task, p := range k.shoot(t, r).Parts {
			if k.plan.Tasks[task].Kind == api.Sink {
				got = append(got, p.Pend)
			} else if len(p.Pend) > 0 {
				t.Errorf("P16.4: %v: the part of task %d has pending output", k, task)
			}
		}
		if text := pen.TellLists(got); spaced(text) != spaced(want) {
			t.Errorf("P16.4, P16.10: %v: behind %v the pending outputs are %s, want %s", k, lines, text, want)
		}
	}
}

// TestCommit: counts below 0, above the number of records, too few and too many of them, rising and falling.
func TestCommit(t *testing.T) {
	k := kindOf(fork(), "").at("2 / 0 / 1 / 0 / 3", "/ / /", "a=1 | b=2 / c=3 / d=4 | e=5 | f=6")
	pends(t, k, "/ /")
	pends(t, k, "/ /", "commit")
	pends(t, k, "/ /", "commit 2 1 3")
	pends(t, k, "/ /", "commit 3 2 4 0")
	pends(t, k, "/ /", "commit 9223372036854775807 9223372036854775807 9223372036854775807")
	pends(t, k, "a=1 | b=2 / c=3 / d=4 | e=5 | f=6", "commit 0 0 0")
	pends(t, k, "a=1 | b=2 / c=3 / d=4 | e=5 | f=6", "commit -1 -2 -9223372036854775808 7 7 7")
	pends(t, k, "b=2 / / e=5 | f=6", "commit 1 1 1")
	pends(t, k, "b=2 / /", "commit 1")
	pends(t, k, "b=2 / c=3 /", "commit 1 0")
	pends(t, k, "b=2 / c=3 / f=6", "commit 1 0 2 0 0 0 0 0")
	pends(t, k, "b=2 / c=3 / e=5 | f=6", "commit 0 0 1", "commit 1")
	pends(t, k, "/ c=3 / f=6", "commit 1 0 1", "commit 2 -5 2", "commit")
	pends(t, k, "b=2 / / d=4 | e=5 | f=6", "commit 9 9 9", "commit 1 1 0")
	pends(t, k, "a=1 | b=2 / / f=6", "commit 0 0 0", "commit 5 0 3", "commit 0 1 2")
}

// TestCommitAndWhatComesLater: a count above the number of records stays at that number, whatever comes behind it.
func TestCommitAndWhatComesLater(t *testing.T) {
	k := kindOf(line(), "a=1 | b=2 | c=3")
	steps := []string{"0.0", "1.0"}
	pends(t, k.at("3 / 3", "", "a=1 | b=2 | c=3"), "")
	pends(t, k, "a=1 | b=2 | c=3", append(append(steps, steps...), steps...)...)
	pends(t, k, "b=2 | c=3", append(append(append(steps, "commit 99"), steps...), steps...)...)
	pends(t, k, "c=3", append(append(append(steps, steps...), "commit 2"), steps...)...)
	pends(t, k, "a=1 | b=2 | c=3", append(append(append(steps, "commit 1", "commit 0"), steps...), steps...)...)
	pends(t, k, "b=2 | c=3", append(append(append(steps, "commit 1"), steps...), steps...)...)
	pends(t, k.at("1 / 2", "", "x=1 | y=2"), "b=2 | c=3", append(steps, steps...)...)
	pends(t, k.at("1 / 2", "", "x=1 | y=2"), "y=2 | b=2 | c=3", append(append(steps, "commit 1"), steps...)...)
}

// TestCommitTouchesNothingElse: no answer, no configuration, no trail, and no copy that is made already.
func TestCommitTouchesNothingElse(t *testing.T) {
	k := kindOf(line(), "a=1 | b=2")
	inModes(t, "P16.10", allModes, k, "0.0", "1.0", "trigger = 1", "0.0 = mark", "1.0 = mark", "commit 1", "trail = step 0.0, step 1.0, trigger 1, mark 0.0 1, copy 0 1, part 0 1, mark 1.0 1, copy 1 1, part 1 1", "config = 1 / 1 # # a=1", "under = 1 0 1", "post = ack", "commit 0", "post = ready: 1 77 {1} {1 [] <a=1>}")
	inModes(t, "P16.10", allModes, k, "0.0", "1.0", "trigger = 1", "0.0 = mark", "commit 1", "1.0 = mark", "commit 0", "post = ack", "post = ready: 1 77 {1} {1 []}")
	for seed := range 200 {
		w := seeded(seed)
		k := w.kind()
		r, other, m := k.open(t), k.open(t), k.model()
		for _, c := range w.script(k, 80) {
			if c.What == "commit" {
				continue
			}
			r.Commit(append(w.counts(m), math.MaxInt, -1))
			got, want := c.of(r), c.of(other)
			for n := range got.Shot.Parts {
				got.Shot.Parts[n].Pend, want.Shot.Parts[n].Pend = nil, nil
			}
			if !same(got, want) || !equal.Config(r.Config(), other.Config()) || pen.TellTrail(r.Trail()) != pen.TellTrail(other.Trail()) {
				t.Fatalf("P16.10: %v: with commits between, %v answers %s, without them %s, or another thing is told behind it", k, c, c.told(got), c.told(want))
			}
		}
	}
}

// TestConfig: without markers and control lanes, behind each call.
func TestConfig(t *testing.T) {
	k := kindOf(line(), "a=1 | b=2").with(2).at("0 / 1", "y=8", "z=9")
	inModes(t, "P16.11", allModes, k, "config = 0 / 1 # y=8 # z=9", "trigger = 1", "config = 0 / 1 # y=8 # z=9", "0.0 = mark", "config = 0 / 1 # y=8 # z=9", "0.0 = step", "config = 1 / 1 # y=8 | a=1 # z=9", "abort = 1", "trigger = 2", "0.0 = mark", "config = 1 / 1 # y=8 | a=1 # z=9", "0.0 = block", "config = 1 / 1 # y=8 | a=1 # z=9")
	inModes(t, "P16.11", slowModes, k, "trigger = 1", "0.0 = mark", "0.0 = step", "1.0 = step", "config = 1 / 2 # a=1 # z=9 | y=8", "1.0 = mark", "config = 1 / 2 # a=1 # z=9 | y=8", "1.0 = step", "post", "post", "commit 0", "config = 1 / 3 # # z=9 | y=8 | a=1")
	inModes(t, "P16.11", "overtaking", k, "trigger = 1", "0.0 = mark", "0.0 = step", "1.0 = mark", "config = 1 / 1 # y=8 | a=1 # z=9", "1.0 = step", "1.0 = step", "config = 1 / 3 # # z=9 | y=8 | a=1")
}

// TestTrail: mark, copy, part within one call; calls that aren't said to write write nothing.
func TestTrail(t *testing.T) {
	k := kindOf(line(), "a=1").from(5)
	inModes(t, "P16.12", allModes, k, "trail = ", "1.0 = empty", "2.0 = nothing", "post = empty", "abort = none", "settle 5 yes = not ready", "commit 1", "under = 0", "config", "trail = ", "0.0 = step", "0.0 = empty", "trail = step 0.0", "trigger = 5", "trigger = under", "0.0 = mark", "trail = step 0.0, trigger 5, mark 0.0 5, copy 0 5, part 0 5")
	inModes(t, "P16.12", allModes, kindOf(line(), "a=1 | b=2"), "0.0 = step", "0.0 = block", "0.0 = block", "trail = step 0.0")
	// A copy whose part isn't done, and a part without a copy.
	inModes(t, "P16.12", "recorded overtaking", kindOf(pair(), "/"), "trigger = 1", "1.0 = mark", "2.1 = mark", "2.1 = empty", "trail = trigger 1, mark 1.0 1, copy 1 1, part 1 1, mark 2.1 1, copy 2 1", "0.0 = mark", "2.0 = mark", "trail = trigger 1, mark 1.0 1, copy 1 1, part 1 1, mark 2.1 1, copy 2 1, mark 0.0 1, copy 0 1, part 0 1, mark 2.0 1, part 2 1")
	inModes(t, "P16.12", "aligned", kindOf(pair(), "/"), "trigger = 1", "1.0 = mark", "2.1 = mark", "2.1 = held", "trail = trigger 1, mark 1.0 1, copy 1 1, part 1 1, mark 2.1 1", "0.0 = mark", "2.0 = mark", "trail = trigger 1, mark 1.0 1, copy 1 1, part 1 1, mark 2.1 1, mark 0.0 1, copy 0 1, part 0 1, mark 2.0 1, copy 2 1, part 2 1")
}
