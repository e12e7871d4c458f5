package flow

import (
	"reflect"
	"testing"

	"eddy/api"
)

// TestASinkThatCantCountOn: no test can hand in an output of MaxNum records, so the single step is asked itself.
func TestASinkThatCantCountOn(t *testing.T) {
	p := api.Plan{Cap: 1, Tasks: []api.Task{{Name: "s", Kind: api.Source}, {Name: "k", Kind: api.Sink}}, Edges: []api.Edge{{From: 0, To: 1}}}
	f, e := New(p, make([][]api.Record, 1))
	if e != api.OK {
		t.Fatalf("P9.1: New answers error %d", e)
	}
	full := func(num int) api.Config {
		return api.Config{States: []api.State{{}, {Num: num}}, Lanes: [][]api.Record{{{Key: "a"}, {Key: "b"}}}, Outs: make([][]api.Record, 1)}
	}
	c, event := full(api.MaxNum), api.Event{Task: 1}
	if e := f.step(&c, event); e != api.ErrStageFull || !reflect.DeepEqual(c, full(api.MaxNum)) {
		t.Errorf("P9.5.4: a step of a sink at MaxNum answers error %d and leaves %v", e, c)
	}
	if l := possible(f.step, c, f.events()); len(l) != 0 {
		t.Errorf("P9.6: a sink at MaxNum has the events %v", l)
	}
	after, n, e := played(f.step, full(api.MaxNum-1), []api.Event{event, event})
	want := api.Config{States: []api.State{{}, {Num: api.MaxNum}}, Lanes: [][]api.Record{{{Key: "b"}}}, Outs: [][]api.Record{{{Key: "a"}}}}
	if n != 1 || e != api.ErrStageFull || !reflect.DeepEqual(after, want) {
		t.Errorf("P9.7: the events of a sink that comes to MaxNum answer %v, %d, error %d", after, n, e)
	}
}
