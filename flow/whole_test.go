package flow_test

import (
	"math"
	"slices"
	"strings"
	"testing"

	"eddy/api"
	"eddy/flow"
	"eddy/pen"
)

// A reach is all configurations that can be reached from the start, each once.
type reach struct {
	f    tried
	seen map[string]int
	all  []api.Config
	rest []api.Config
}

// reached goes through them. By each one it is held against the model, and its events against one another.
func reached(t *testing.T, p api.Plan, tapes [][]api.Record) *reach {
	t.Helper()
	r := &reach{f: made(t, p, tapes), seen: map[string]int{}}
	r.add(r.f.Start())
	for k := 0; k < len(r.all); k++ {
		c := r.all[k]
		l := r.f.asModel(t, c)
		r.f.commute(t, c, l)
		for _, e := range l {
			after := r.f.after(t, c, e)
			if err := r.f.Fits(after); err != api.OK {
				t.Fatalf("P9.9: %v: behind %v of %v: error %d", r.f, e, tell(c), err)
			}
			r.add(after)
		}
		if len(l) == 0 {
			r.rest = append(r.rest, c)
		}
	}
	return r
}

func (r *reach) add(c api.Config) {
	if name := shown(c); r.seen[name] == 0 {
		r.seen[name] = len(r.seen) + 1
		r.all = append(r.all, c)
	}
}

// outs gives the outputs at which the runs come to rest.
func (r *reach) outs() []string {
	var all []string
	for _, c := range r.rest {
		all = append(all, tell(c.Outs))
	}
	slices.Sort(all)
	return slices.Compact(all)
}

// TestAllRunsOfSmallPlans: every configuration that can be reached, and where the runs come to rest.
func TestAllRunsOfSmallPlans(t *testing.T) {
	for _, x := range []struct {
		p     api.Plan
		tapes string
		outs  string
	}{
		{line(), "a=1 | b=2", "a=1 | b=2"},
		{line(), "", ""},
		{planned("k sink", "m map val ; key", "s source 0", "m.0 k.0", "s.0 m.0"), "a=1 | b=2", `1="a" | 2="b"`},
		{planned("s source 0", "f filter val>1", "k sink", "s.0 f.0", "f.0 k.0"), "a=1 | b=2", "b=2"},
		{planned("s source 0", "f fold 0 ; acc+val", "k sink", "s.0 f.0", "f.0 k.0"), "a=1 | a=2", "a=1 | a=3"},
		{planned("s source 0", "x split val", "k sink", "l sink", "s.0 x.0", "x.1 k.0", "x.0 l.0"), "a=1 | b=2", "a=1 / b=2"},
		{planned("s source 0", "w window 2", "k sink", "s.0 w.0", "w.0 k.0"), "a=1 | b=2 | a=3", "a=[1, 3]"},
		{planned("s source 0", "d dedup", "k sink", "s.0 d.0", "d.0 k.0"), "a=1 | a=2", "a=1"},
		{planned("s source 0", "t tee", "u union", "k sink", "s.0 t.0", "t.0 u.1", "t.1 u.0", "u.0 k.0"), "a=1 | b=2", "a=1 | a=1 | b=2 | b=2; a=1 | b=2 | a=1 | b=2"},
		{planned("a source 0", "b source 1", "j join", "k sink", "a.0 j.0", "b.0 j.1", "j.0 k.0"), "a=1 | a=2 / a=5", "a=[1, 5] | a=[2, 5]; a=[2, 5]"},
		{planned("a source 0", "b source 0", "u union", "k sink", "a.0 u.0", "b.0 u.1", "u.0 k.0"), "a=1 | b=2", "a=1 | a=1 | b=2 | b=2; a=1 | b=2 | a=1 | b=2"},
		{loop(), "a=0 | b=9", "a=3 | b=10; b=10 | a=3"},
		{planned("s source 0", "h head", "t tail 0 ; 1", "k sink", "s.0 h.0", "h.0 t.0", "t.0 h.1", "t.1 k.0"), "a=0 | b=9", "a=0 | b=9"},
		{loop(), "a=0 | b=1 | c=9", "a=3 | b=3 | c=10; a=3 | c=10 | b=3; b=3 | a=3 | c=10; b=3 | c=10 | a=3; c=10 | a=3 | b=3; c=10 | b=3 | a=3"},
		{round(), "/ / a=1 | a=2 | b=2", "b=2"},
		{planned("a source 0", "b source 1", "j join", "k sink", "a.0 j.0", "b.0 j.1", "j.0 k.0"), "a=1 | b=2 | a=3 / b=5 | a=6", "a=[1, 6] | b=[2, 5] | a=[3, 6]; b=[2, 5] | a=[1, 6] | a=[3, 6]; b=[2, 5] | a=[3, 6]"},
		{planned("s source 0", "t tee", "w window 2", "f fold 0 ; acc+val", "j join", "k sink", "s.0 t.0", "t.0 w.0", "t.1 f.0", "w.0 j.0", "f.0 j.1", "j.0 k.0"), "a=1 | a=2", "a=[[1, 2], 1] | a=[[1, 2], 3]; a=[[1, 2], 3]"},
	} {
		r := reached(t, x.p, lists(x.tapes))
		if got := strings.Join(r.outs(), "; "); got != x.outs {
			t.Errorf("%v comes to rest with the outputs %s, want %s", r.f, got, x.outs)
		}
		narrow := true
		for task := range x.p.Tasks {
			ins, _ := r.f.ends(task)
			narrow = narrow && ins < 2
		}
		if narrow && len(r.rest) != 1 {
			t.Errorf("P9.12: %v comes to rest at %d configurations", r.f, len(r.rest))
		}
	}
}

// TestShortLists: every list of up to four events of two plans, those that there aren't too, against the model.
func TestShortLists(t *testing.T) {
	for _, f := range []tried{made(t, line(), lists("a=1 | b=2")), made(t, planned("s source 0", "t tee", "j join", "k sink", "s.0 t.0", "t.0 j.1", "t.1 j.0", "j.0 k.0"), lists("a=1"))} {
		all := f.asked()
		all = slices.DeleteFunc(all, func(e api.Event) bool { return e.Port > 1 || e.Port < 0 })
		for _, a := range all {
			for _, b := range all {
				for _, c := range all {
					l := []api.Event{a, b, c}
					want, count, err := f.replay(f.Start(), l)
					f.replays(t, "P9.7", f.Start(), l, want, count, err)
				}
			}
		}
	}
}

// nested gives a value of so many lists around one another.
func nested(lists int) api.Value {
	v := api.Value{}
	for range lists {
		v = api.Value{Kind: api.List, Items: []api.Value{v}}
	}
	return v
}

// TestDeepValues: lists in lists far beyond what is valid.
func TestDeepValues(t *testing.T) {
	f := made(t, line(), lists("a=1"))
	deep := func(lists int) api.Config {
		c := f.Start()
		c.States[0].Cells = []api.Cell{{Vals: []api.Value{nested(lists)}}}
		c.Lanes[0] = []api.Record{{Val: nested(lists)}}
		return c
	}
	const lists = 1 << 15
	c := deep(lists)
	if !f.Same(c, deep(lists)) || f.Same(c, deep(lists+1)) || f.Same(deep(lists-1), c) {
		t.Error("P9.8: deep values aren't told apart")
	}
	if f.Fits(c) != api.ErrFlowFit || len(f.Enabled(c)) != 0 {
		t.Error("P9.3: deep values fit")
	}
	if g, e := flow.New(line(), c.Lanes); g != nil || e != api.ErrFlowTape {
		t.Errorf("P9.1: a tape with a deep value: error %d", e)
	}
}

// TestConfigurationsOfAnything: every call ends, and none panics, whatever it is handed.
func TestConfigurationsOfAnything(t *testing.T) {
	numbers := []int{math.MinInt, -1 << 40, -1, 0, 1, 2, 3, 63, 64, 65, 1 << 30, 1 << 40, math.MaxInt}
	for seed := range 1500 {
		d := pen.Seeded(seed)
		number := func() int { return numbers[d.Below(len(numbers))] }
		record := func() api.Record {
			return api.Record{Key: strings.Repeat("k", d.Below(20)), Val: pen.One(d, d.Value(), api.Value{Kind: number(), Int: int64(number())}, nested(d.Below(100))), Loops: make([]int, d.Below(6))}
		}
		records := func() (all [][]api.Record) {
			for range d.Below(5) {
				all = append(all, []api.Record{record(), record()}[:d.Below(3)])
			}
			return all
		}
		p := pen.One(d, line(), loop(), d.Plan())
		f := made(t, p, d.Tapes(p, 2))
		c := api.Config{Lanes: records(), Outs: records()}
		if d.Below(2) == 0 {
			c.Lanes = append(c.Lanes, make([][]api.Record, len(p.Edges))...)[:len(p.Edges)]
		}
		for range pen.One(d, len(p.Tasks), d.Below(5)) {
			c.States = append(c.States, api.State{Num: number(), Cells: make([]api.Cell, d.Below(3))})
		}
		e := api.Event{Task: number(), Port: number()}
		if want := f.fits(c); f.Fits(c) != want {
			t.Fatalf("P9.3: %v: Fits(%s) answers error %d, want %d", f, shown(c), f.Fits(c), want)
		}
		f.Enabled(c)
		f.Step(c, e)
		f.Replay(c, []api.Event{e, {}})
		f.Step(f.Start(), e)
		if !f.Same(c, clone(c)) {
			t.Fatalf("P9.8: %v isn't the same as its copy", shown(c))
		}
		if g, err := flow.New(api.Plan{Cap: number(), Tasks: make([]api.Task, d.Below(3))}, records()); g != nil || err == api.OK {
			t.Fatalf("P9.1: New answers a flow of no plan, error %d", err)
		}
		newAsModel(t, p, records())
	}
}
