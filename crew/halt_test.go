package crew

import (
	"reflect"
	"testing"

	"eddy/api"
	"eddy/equal"
	"eddy/flow"
)

// made makes a crew of a plan, with lanes as one makes them.
func made(t *testing.T, p api.Plan, mode int, maker Maker) *Crew {
	t.Helper()
	tapes := [][]api.Record{{{Key: "x"}, {Key: "y"}, {Key: "z"}}}
	f, e := flow.New(p, tapes)
	if e != api.OK {
		t.Fatalf("P9.1: error %d", e)
	}
	o := Orders{Plan: p, Tapes: tapes, Mode: mode, Start: f.Start(), Next: 1, Sum: 7}
	if e := o.Refusal(); e != api.OK {
		t.Fatalf("P16.1: error %d", e)
	}
	c, e := New(o, maker)
	if e != api.OK {
		t.Fatalf("P16.2: error %d", e)
	}
	return c
}

// chain is a plan of tasks one behind the other.
func chain(kinds ...api.Task) api.Plan {
	p := api.Plan{Cap: 1}
	for task, k := range kinds {
		k.Name = string(rune('a' + task))
		p.Tasks = append(p.Tasks, k)
		if task > 0 {
			p.Edges = append(p.Edges, api.Edge{From: task - 1, To: task})
		}
	}
	return p
}

// begun makes a crew in the middle of which a test can write: no test can hand in an output of MaxNum records.
func begun(t *testing.T, mode int, kinds ...api.Task) *Crew {
	t.Helper()
	return made(t, chain(kinds...), mode, Local)
}

// halts fails the test where a pick doesn't halt, or changes something.
func halts(t *testing.T, r *Crew, task, port int) {
	t.Helper()
	config, trail := r.Config(), r.Trail()
	id, tasks := r.Under()
	for range 2 {
		if did := r.Pick(task, port); did != api.DidHalt {
			t.Errorf("P16.5: mode %d: Pick(%d, %d) answers %d", r.mode, task, port, did)
		}
	}
	if !equal.Config(r.Config(), config) || !reflect.DeepEqual(r.Trail(), trail) {
		t.Errorf("P16.5: mode %d: a pick that answers DidHalt changes %v to %v, or the trail to %v", r.mode, config, r.Config(), r.Trail())
	}
	if under, wanted := r.Under(); under != id || !reflect.DeepEqual(wanted, tasks) {
		t.Errorf("P16.5: mode %d: a pick that answers DidHalt changes what is under way to %d, %v", r.mode, under, wanted)
	}
}

// TestASinkAtMaxNum: its step answers an error, and the record stays; markers go on.
func TestASinkAtMaxNum(t *testing.T) {
	for mode := 1; mode <= 3; mode++ {
		r := begun(t, mode, api.Task{Kind: api.Source}, api.Task{Kind: api.Sink})
		r.tasks[1].state.Num = api.MaxNum - 1
		r.Pick(0, 0)
		if did := r.Pick(1, 0); did != api.DidStep || r.tasks[1].state.Num != api.MaxNum {
			t.Errorf("P16.5: mode %d: the last step of a sink answers %d and leaves the number %d", mode, did, r.tasks[1].state.Num)
		}
		if did := r.Pick(1, 0); did != api.DidEmpty {
			t.Errorf("P16.3: mode %d: a sink at MaxNum answers %d at an empty lane", mode, did)
		}
		r.Trigger()
		r.Pick(0, 0)
		if did := r.Pick(1, 0); did != api.DidMark {
			t.Errorf("P16.3: mode %d: a sink at MaxNum answers %d at a marker", mode, did)
		}
		r.Pick(0, 0)
		halts(t, r, 1, 0)
		if did := r.Pick(0, 0); did != api.DidBlock {
			t.Errorf("P16.5: mode %d: the record has left its lane: the source answers %d", mode, did)
		}
		r.Post()
		if s, did := r.Post(); did != api.DidReady || s.Parts[1].State.Num != api.MaxNum {
			t.Errorf("P16.7: mode %d: the shot of a sink at MaxNum: %d, %v", mode, did, s)
		}
	}
}

// TestAnErrorAheadOfAFullLane: whatever the error is, and whether or not there is room.
func TestAnErrorAheadOfAFullLane(t *testing.T) {
	for mode := 1; mode <= 3; mode++ {
		r := begun(t, mode, api.Task{Kind: api.Source}, api.Task{Kind: api.Dedup}, api.Task{Kind: api.Sink})
		for _, task := range []int{0, 1, 0} {
			r.Pick(task, 0)
		}
		if did := r.Pick(1, 0); did != api.DidBlock {
			t.Errorf("P16.5: mode %d: the lane isn't full: the pick answers %d", mode, did)
		}
		r.tasks[1].state.Num = 1
		halts(t, r, 1, 0)
		r.Pick(2, 0)
		halts(t, r, 1, 0)
		r.tasks[1].state.Num = 0
		if did := r.Pick(1, 0); did != api.DidStep {
			t.Errorf("P16.5: mode %d: the record is gone: the pick answers %d", mode, did)
		}
	}
}

// TestAHaltWritesNothingIntoALog: a record that wasn't taken isn't recorded.
func TestAHaltWritesNothingIntoALog(t *testing.T) {
	p := api.Plan{Cap: 2, Tasks: []api.Task{{Name: "a", Kind: api.Source}, {Name: "b", Kind: api.Source}, {Name: "u", Kind: api.Union}, {Name: "k", Kind: api.Sink}},
		Edges: []api.Edge{{From: 0, To: 2}, {From: 1, To: 2, In: 1}, {From: 2, To: 3}}}
	r := made(t, p, api.Recorded, Local)
	r.Pick(1, 0)
	r.Trigger()
	r.Pick(0, 0)
	r.Pick(2, 0)
	r.tasks[2].state.Num = 1
	halts(t, r, 2, 1)
	r.tasks[2].state.Num = 0
	for _, task := range []int{1, 3} {
		r.Pick(task, 0)
	}
	r.Pick(2, 1)
	r.Pick(2, 1)
	for range 3 {
		r.Post()
	}
	if s, did := r.Post(); did != api.DidReady || !equal.Records(s.Parts[2].Logs[1], []api.Record{{Key: "x"}}) {
		t.Errorf("P16.5: the log of a port at which a pick halted is in the shot %v (%d)", s, did)
	}
}

// TestWhatBecomesOfAShot: nothing that the runner tells shows it, so the coordinator is asked itself.
func TestWhatBecomesOfAShot(t *testing.T) {
	for _, c := range []struct {
		ok   bool
		want int
	}{{true, 3}, {false, 4}} {
		r := begun(t, api.Recorded, api.Task{Kind: api.Source}, api.Task{Kind: api.Sink})
		r.Trigger()
		for _, task := range []int{0, 1} {
			r.Pick(task, 0)
			r.Post()
		}
		if e := r.Settle(1, c.ok); e != api.OK || r.post.Status(1) != c.want {
			t.Errorf("P16.9: Settle(1, %v) answers error %d, and the shot's status is %d, want %d", c.ok, e, r.post.Status(1), c.want)
		}
	}
}
