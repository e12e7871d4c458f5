package flow_test

import (
	"math"
	"slices"
	"testing"

	"eddy/api"
	"eddy/pen"
)

func TestStart(t *testing.T) {
	for _, c := range []struct {
		p                   api.Plan
		tasks, edges, sinks int
	}{
		{line(), 2, 1, 1}, {loop(), 5, 5, 1}, {every(), 11, 12, 1}, {round(), 5, 5, 1},
		{planned("s source 0", "t tee", "k sink", "l sink", "m sink", "s.0 t.0", "t.0 k.0", "t.1 l.0", "t.2 m.0"), 5, 4, 3},
	} {
		f := made(t, c.p, lists("a=1 | b=2 / a=1 / a=1"))
		want := api.Config{States: make([]api.State, c.tasks), Lanes: make([][]api.Record, c.edges), Outs: make([][]api.Record, c.sinks)}
		if got := f.Start(); !same(got, want) {
			t.Errorf("P9.2: %v: Start answers %v", f, tell(got))
		}
		if e := f.Fits(f.Start()); e != api.OK {
			t.Errorf("P9.9: %v: the start doesn't fit: error %d", f, e)
		}
	}
}

// wantFit fails the test where Fits answers otherwise, or where another call goes on with a configuration that doesn't fit.
func (f tried) wantFit(t *testing.T, why string, c api.Config, want api.Errno) {
	t.Helper()
	if got := f.Fits(c); got != want {
		t.Errorf("P9.3: %s: %v: Fits(%v) answers error %d, want %d", why, f, tell(c), got, want)
	}
	if got := f.fits(c); got != want {
		t.Errorf("the model: %s: %v answers error %d, want %d", why, tell(c), got, want)
	}
	if want == api.OK {
		return
	}
	if l := f.Enabled(c); len(l) != 0 {
		t.Errorf("P9.6: %s: Enabled(%v) answers %v, want nothing", why, tell(c), l)
	}
	for _, e := range events("0.0 1.0 -1.0 99.0 0.7") {
		f.refuses(t, "P9.5.1: "+why, c, e, api.ErrFlowFit)
		f.replays(t, "P9.7: "+why, c, []api.Event{e, e}, api.Config{}, 0, api.ErrFlowFit)
	}
	f.replays(t, "P9.7: "+why, c, nil, api.Config{}, 0, api.ErrFlowFit)
}

// middle gives a flow of every task but those of round, and a configuration in the middle of a run.
func middle(t *testing.T) (tried, api.Config) {
	t.Helper()
	f := made(t, every(), lists("a=1 | b=2 | a=3 / a=4 | b=5 | c=6 | a=7"))
	c := config(
		"1 / 0; a:[1, 2]; b:[3, 1, 2] / 3 / 0 / 2 / 0 / 0; a:[2] / 0 / 0 / 0 / 0; a:[4]",
		"c=6 / / c=6 / a=[1, 2] / b=3 / a=2 | a=4@1 / / / / / x=none@0@9@1 / b=[5]",
		"z=0")
	f.wantFit(t, "in the middle of a run", c, api.OK)
	return f, c
}

// TestHowManyOfEach: states, lanes and outputs, one too few and one too many, and the lists of one in the place of another's.
func TestHowManyOfEach(t *testing.T) {
	f, whole := middle(t)
	for _, turn := range []func(c *api.Config){
		func(c *api.Config) { c.States = c.States[:len(c.States)-1] },
		func(c *api.Config) { c.States = append(c.States, api.State{}) },
		func(c *api.Config) { c.States = c.States[1:] },
		func(c *api.Config) { c.States = nil },
		func(c *api.Config) { c.Lanes = c.Lanes[:len(c.Lanes)-1] },
		func(c *api.Config) { c.Lanes = append(c.Lanes, nil) },
		func(c *api.Config) { c.Lanes = nil },
		func(c *api.Config) { c.Outs = nil },
		func(c *api.Config) { c.Outs = append(c.Outs, nil) },
		func(c *api.Config) { c.Lanes, c.Outs = c.Outs, c.Lanes },
		func(c *api.Config) { c.Lanes, c.Outs = c.Lanes[:11], append(c.Outs, nil) },
		func(c *api.Config) { *c = api.Config{} },
		func(c *api.Config) { c.States, c.Lanes = c.States[:10], append(c.Lanes, nil) },
	} {
		c := clone(whole)
		turn(&c)
		f.wantFit(t, "a number of states, lanes or outputs", c, api.ErrFlowFit)
	}
	f = made(t, line(), lists("a=1"))
	f.wantFit(t, "no output, and a sink that has put none out", config("0 / 0", "", ""), api.OK)
	f.wantFit(t, "no outputs at all", api.Config{States: make([]api.State, 2), Lanes: make([][]api.Record, 1)}, api.ErrFlowFit)
}

func TestWhichStatesFit(t *testing.T) {
	f, whole := middle(t)
	// By task: some states that it can have, some that it can't.
	const k, j, s, m, r, fl, o, u, x, e, w = 0, 1, 2, 3, 4, 5, 6, 7, 8, 9, 10
	can := map[int][]string{
		k: {"1"}, s: {"0", "3", "4"}, r: {"0", "2", "3"}, j: {"0", "0; :[1, none]; k:[2, [1]]"}, o: {"0; z:[[]]"}, w: {"0", "0; a:[1]; b:[1]"},
	}
	cannot := map[int][]string{
		k: {"0", "2", "-1", "1; a:[]"}, s: {"5", "-1", "1; a:[]", "1073741824"}, r: {"4", "5", "0; a:[1]"}, j: {"1", "0; a:[]", "0; a:[3, 1]", "0; b:[1, 1]; a:[1, 1]"},
		m: {"1", "0; a:[1]"}, fl: {"2", "0; a:[]"}, o: {"7", "0; a:[]", "0; a:[1, 2]"}, u: {"1", "0; a:[]"}, x: {"-1"}, e: {"1", "0; a:[1]"}, w: {"1", "0; a:[]", "0; a:[1, 2]"},
	}
	for task, states := range can {
		for _, text := range states {
			c := clone(whole)
			c.States[task] = state(text)
			f.wantFit(t, "a state that the task can have", c, api.OK)
		}
	}
	for task, states := range cannot {
		for _, text := range states {
			c := clone(whole)
			c.States[task] = state(text)
			f.wantFit(t, "a state that the task can't have", c, api.ErrFlowFit)
		}
	}
	if len(cannot) != len(whole.States) {
		t.Errorf("%d tasks were tried, of %d", len(cannot), len(whole.States))
	}
	f = made(t, round(), lists("/ / a=1"))
	for task, text := range map[int]string{0: "1", 1: "1", 2: "0; a:[1]", 3: "1", 4: "2"} {
		c := f.Start()
		c.States[task] = state(text)
		f.wantFit(t, "a state that the task can't have", c, api.ErrFlowFit)
	}
	c := f.Start()
	c.States[2], c.States[4] = state("0; a:[]; b:[]"), state("1")
	f.wantFit(t, "states that the tasks can have", c, api.OK)
}

// TestASourcesNumber: at most its tape's length, whatever the others' tapes are.
func TestASourcesNumber(t *testing.T) {
	p := planned("a source 2", "b source 0", "c source 2", "u union", "k sink", "a.0 u.1", "b.0 u.0", "c.0 u.2", "u.0 k.0")
	f := made(t, p, lists("a=1 / a=1 | a=2 | a=3 | a=4 / a=1 | a=2"))
	for task, most := range []int{2, 1, 2} {
		for num := -1; num <= 5; num++ {
			c := f.Start()
			c.States[task].Num = num
			want := api.OK
			if num < 0 || num > most {
				want = api.ErrFlowFit
			}
			f.wantFit(t, "a source's number", c, want)
		}
		c := f.Start()
		c.States[task].Num = api.MaxNum
		f.wantFit(t, "a source's number", c, api.ErrFlowFit)
		c.States[task].Num = math.MinInt
		f.wantFit(t, "a source's number", c, api.ErrFlowFit)
	}
}

// TestASinksNumber: that of the records in its own output.
func TestASinksNumber(t *testing.T) {
	p := planned("l sink", "s source 0", "t tee", "k sink", "s.0 t.0", "t.0 k.0", "t.1 l.0")
	f := made(t, p, lists("a=1"))
	for first := range 4 {
		for second := range 4 {
			for numA := -1; numA <= 4; numA++ {
				for numB := -1; numB <= 4; numB++ {
					c := f.Start()
					c.Outs[0], c.Outs[1] = recs("a=1 | b=2 | c=3")[:first], recs("a=1 | b=2 | c=3")[:second]
					c.States[0].Num, c.States[3].Num = numA, numB
					want := api.OK
					if numA != first || numB != second {
						want = api.ErrFlowFit
					}
					f.wantFit(t, "sinks' numbers", c, want)
				}
			}
		}
	}
}

// TestRecordsInLanesAndOutputs: each lane and output, at each place.
func TestRecordsInLanesAndOutputs(t *testing.T) {
	f, whole := middle(t)
	good := append(greatRecords(), recs("a=1@9@0@9 | =none")...)
	for lane := range whole.Lanes {
		for place := range len(whole.Lanes[lane]) + 1 {
			for _, r := range append(wrongRecords(), good...) {
				c := clone(whole)
				c.Lanes[lane] = slices.Insert(c.Lanes[lane], place, r)
				f.wantFit(t, "a record in a lane", c, f.fits(c))
			}
		}
	}
	for _, r := range wrongRecords() {
		for place := range 2 {
			c := clone(whole)
			c.Lanes[3] = slices.Insert(c.Lanes[3], place, r)
			f.wantFit(t, "a wrong record in a lane", c, api.ErrFlowFit)
			c = clone(whole)
			c.Outs[0], c.States[0].Num = slices.Insert(c.Outs[0], place, r), 2
			f.wantFit(t, "a wrong record in an output", c, api.ErrFlowFit)
		}
	}
	for _, r := range good {
		c := clone(whole)
		c.Lanes[3], c.Outs[0], c.States[0].Num = append(c.Lanes[3], r), append(c.Outs[0], r), 2
		f.wantFit(t, "great records", c, api.OK)
	}
}

// TestDrawnConfigs: those that fit, and such that are spoilt at one place.
func TestDrawnConfigs(t *testing.T) {
	found := map[api.Errno]int{}
	for seed := range 800 {
		d := pen.Seeded(seed)
		p := d.Plan()
		f := made(t, p, d.Tapes(p, 3))
		c := d.Config(p, f.tapes, 3)
		f.wantFit(t, "drawn", c, api.OK)
		for range 3 {
			bad := spoilt(d, c)
			want := f.fits(bad)
			found[want]++
			f.wantFit(t, "drawn and spoilt", bad, want)
		}
	}
	if found[api.OK] < 100 || found[api.ErrFlowFit] < 1000 {
		t.Errorf("the drawn errors are %v", found)
	}
}
