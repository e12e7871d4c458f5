package runner_test

import (
	"math"
	"slices"
	"testing"

	"eddy/api"
	"eddy/equal"
	"eddy/flow"
	"eddy/pen"
	"eddy/runner"
	"eddy/shape"
)

// news fails the test where New answers otherwise.
func news(t *testing.T, promise string, k kind, want api.Errno) {
	t.Helper()
	r, e := runner.New(k.plan, k.tapes, k.mode, k.start, k.next, k.sum)
	if e != want || (r == nil) != (want != api.OK) {
		t.Errorf("%s: %v: New answers a runner: %v, error %d, want %d", promise, k, r != nil, e, want)
	}
}

// TestEachErrorAheadOfTheNext: with every choice of what is wrong.
func TestEachErrorAheadOfTheNext(t *testing.T) {
	fine := kindOf(line(), "a=1 | b=2")
	wrongs := []struct {
		spoil func(k *kind)
		err   api.Errno
	}{
		{func(k *kind) { k.plan.Cap = 9 }, api.ErrShapeSize},
		{func(k *kind) { k.tapes = nil }, api.ErrFlowTape},
		{func(k *kind) { k.mode = 4 }, api.ErrRunMode},
		{func(k *kind) { k.start.States = nil }, api.ErrFlowFit},
		{func(k *kind) { k.next = 0 }, api.ErrRunNext},
	}
	for choice := range 1 << len(wrongs) {
		k, want := fine, api.OK
		for n, wrong := range slices.Backward(wrongs) {
			if choice>>n&1 == 1 {
				wrong.spoil(&k)
				want = wrong.err
			}
		}
		news(t, "P16.1", k, want)
	}
}

// TestPlansAndTapes: the errors of shape.Build, then that of the tapes.
func TestPlansAndTapes(t *testing.T) {
	k := kindOf(line(), "a=1")
	k.tapes, k.mode, k.start, k.next = nil, 0, api.Config{}, 0
	for _, spoil := range []func(p *api.Plan){
		func(p *api.Plan) { *p = api.Plan{} },
		func(p *api.Plan) { p.Cap = 0 },
		func(p *api.Plan) { p.Tasks[1].Name = "s" },
		func(p *api.Plan) { p.Tasks[0].Kind = 14 },
		func(p *api.Plan) { p.Tasks[0].Exprs = []string{"1"} },
		func(p *api.Plan) { p.Edges[0].To = 2 },
		func(p *api.Plan) { p.Edges[0].In = 1 },
		func(p *api.Plan) { p.Edges = append(p.Edges, p.Edges[0]) },
		func(p *api.Plan) { *p = pen.ReadPlan("a union", "b tee", "a.0 b.0", "b.0 a.0") },
		func(p *api.Plan) {
			*p = pen.ReadPlan("s source 0", "h head", "t tail val ; 3", "k sink", "s.0 h.1", "h.0 t.0", "t.0 h.0", "t.1 k.0")
		},
	} {
		k := k
		k.plan = line()
		spoil(&k.plan)
		_, _, e := shape.Build(k.plan)
		if e == api.OK {
			t.Errorf("the plan %+v is valid", k.plan)
		}
		news(t, "P16.1.1: a plan that isn't valid", k, e)
	}
	long := make([]api.Record, 65)
	for _, tapes := range [][][]api.Record{nil, {}, {long}, {nil, long}, make([][]api.Record, 5), {pen.ReadRecords("a=1@0")}, {nil, {{Key: "thirteen byte"}}}, {{{Val: api.Value{Kind: 9}}}}} {
		k.tapes = tapes
		news(t, "P16.1.1: tapes", k, api.ErrFlowTape)
	}
}

func TestModes(t *testing.T) {
	k := kindOf(line(), "a=1")
	for _, mode := range []int{0, 4, -1, 5, 1 << 32, 1<<32 + 1, math.MinInt, math.MaxInt} {
		news(t, "P16.1.2: no mode", k.in(mode), api.ErrRunMode)
		k := k.in(mode).from(0)
		k.start = api.Config{}
		news(t, "P16.1.2: no mode", k, api.ErrRunMode)
	}
	for mode := 1; mode <= 3; mode++ {
		news(t, "P16.1", k.in(mode), api.OK)
	}
}

// TestStartsThatDoNotFit: as flow.Fits tells it.
func TestStartsThatDoNotFit(t *testing.T) {
	k := kindOf(loop(), "a=1 | b=2").from(10001)
	for _, start := range []api.Config{
		{},
		pen.ReadConfig("0 / 0 / 0", "/ / /", ""),
		pen.ReadConfig("0 / 0 / 0 / 0 / 0", "/ / /", ""),
		pen.ReadConfig("0 / 0 / 0 / 0", "/ /", ""),
		pen.ReadConfig("0 / 0 / 0 / 0", "/ / / /", ""),
		pen.ReadConfig("0 / 0 / 0 / 0", "/ / /", "/"),
		pen.ReadConfig("3 / 0 / 0 / 0", "/ / /", ""),
		pen.ReadConfig("0 / 1 / 0 / 0", "/ / /", ""),
		pen.ReadConfig("0 / 0 / 0; a:[] / 0", "/ / /", ""),
		pen.ReadConfig("0 / 0 / 0 / 1", "/ / /", ""),
		pen.ReadConfig("0 / 0 / 0 / 0", "/ / /", "a=1"),
		pen.ReadConfig("0 / 0 / 0 / 0", "/ / thirteen byte=1 /", ""),
		pen.ReadConfig("0 / 0 / 0 / 1", "/ / /", "a=1@10"),
		{States: make([]api.State, 4), Lanes: make([][]api.Record, 4)},
	} {
		k.start = start
		news(t, "P16.1.3: "+pen.TellConfig(start), k, api.ErrFlowFit)
	}
	k.start = pen.ReadConfig("2 / 0 / 0 / 1", "a=1 | a=1 | a=1 / / b=1@9@9@9 / c=none", "d=4")
	news(t, "P16.1.4: a start that fits", k, api.ErrRunNext)
	news(t, "P16.1: a start that fits", k.from(1), api.OK)
	for seed := range 400 {
		w := seeded(seed)
		k := w.kind()
		f := k.flow(t)
		news(t, "P16.1", k, api.OK)
		at := w.Below(len(k.start.States))
		k.start.States[at].Num = pen.One(w.Pen, -1, 0, 1, 2, 65, api.MaxNum, api.MaxNum+1)
		news(t, "P16.1.3", k, f.Fits(k.start))
	}
}

func TestFirstNumbers(t *testing.T) {
	k := kindOf(line(), "a=1")
	for _, next := range []int{0, -1, 10001, 10002, 1<<32 + 1, math.MinInt, math.MaxInt} {
		news(t, "P16.1.4", k.from(next), api.ErrRunNext)
	}
	inModes(t, "P16.2", allModes, k.from(1), "trigger = 1", "abort = 1", "trigger = 2")
	inModes(t, "P16.2", allModes, k.from(17), "under = 0", "trigger = 17", "trail = trigger 17")
	inModes(t, "P16.2", allModes, k.from(9999), "trigger = 9999", "abort = 9999", "trigger = ids")
	inModes(t, "P16.2", allModes, k.from(10000), "trigger = ids", "under = 0", "trail = ")
}

// TestABeginning: the configuration is start, nothing is under way, the trail is empty.
func TestABeginning(t *testing.T) {
	for seed := range 400 {
		k := seeded(seed).kind()
		r := k.open(t)
		if c := r.Config(); !equal.Config(c, k.start) {
			t.Errorf("P16.2: %v: the configuration is %s", k, pen.TellConfig(c))
		}
		if id, l := r.Under(); id != 0 || len(l) != 0 {
			t.Errorf("P16.2: %v: %d is under way, with %v", k, id, l)
		}
		if l := r.Trail(); len(l) != 0 {
			t.Errorf("P16.2: %v: the trail is %v", k, l)
		}
		if s, did := r.Post(); did != api.DidEmpty || !equal.Shot(s, api.Shot{}) {
			t.Errorf("P16.2: %v: Post answers %d, %v", k, did, s)
		}
	}
}

// TestRooms: a lane that isn't a back edge's takes as many records as Cap says, and is full then.
func TestRooms(t *testing.T) {
	for room := 1; room <= api.MaxCap; room++ {
		k := kindOf(line(), "a=1 | a=2 | a=3 | a=4 | a=5 | a=6 | a=7 | a=8 | a=9").with(room)
		for mode := 1; mode <= 3; mode++ {
			var lines []string
			for range room {
				lines = append(lines, "0.0 = step")
			}
			plays(t, "P16.2", k.in(mode), append(lines, "0.0 = block", "0.0 = block", "1.0 = step", "0.0 = step", "0.0 = "+map[bool]string{true: "empty", false: "block"}[room == 8])...)
		}
	}
}

// TestALaneAboveItsRoom: start's records are all there, and it is full till it holds fewer than its room.
func TestALaneAboveItsRoom(t *testing.T) {
	k := kindOf(line(), "a=1 | b=2").with(2).at("0 / 0", "w=1 | x=2 | y=3 | z=4", "")
	inModes(t, "P16.2", allModes, k, "0.0 = block", "config = 0 / 0 # w=1 | x=2 | y=3 | z=4 #", "1.0 = step", "0.0 = block", "1.0 = step", "0.0 = block", "1.0 = step", "0.0 = step", "0.0 = block",
		"config = 1 / 3 # z=4 | a=1 # w=1 | x=2 | y=3")
	inModes(t, "P16.2", slowModes, k, "trigger = 1", "0.0 = mark", "1.0 = step", "1.0 = step", "1.0 = step", "1.0 = step", "1.0 = mark", "post = ack", "post = ready: 1 77 {0} {4 [] <w=1 | x=2 | y=3 | z=4>}")
	inModes(t, "P16.2", "overtaking", k, "trigger = 1", "0.0 = mark", "1.0 = mark", "post = ack", "post = ready: 1 77 {0} {0 [w=1 | x=2 | y=3 | z=4]}", "0.0 = block", "1.0 = step")
}

// TestBackLanesHaveNoBound: from start on, and while the runner goes on.
func TestBackLanesHaveNoBound(t *testing.T) {
	k := kindOf(loop(), "a=1 | b=2 | c=3")
	inModes(t, "P16.2, P16.5", allModes, k, "0.0 = step", "1.0 = step", "0.0 = step", "0.0 = block", "2.0 = step", "1.0 = step", "2.0 = step", "0.0 = step", "1.0 = step", "2.0 = step", "config = 3 / 0 / 0 / 0 # / / a=1@1 | b=2@1 | c=3@1 / #")
	inModes(t, "P16.2, P16.5", allModes, k.at("3 / 0 / 0 / 0", "/ d=4@0 / a=1@1 | b=2@1 | c=3@1 /", ""), "1.1 = block", "2.0 = step", "config = 3 / 0 / 0 / 0 # / / a=1@1 | b=2@1 | c=3@1 | d=4@1 / #", "1.1 = step", "1.1 = block")
}

// TestAStartInTheMiddle: states, lanes and outputs go on; what was put out counts as committed.
func TestAStartInTheMiddle(t *testing.T) {
	k := kindOf(pen.ReadPlan("s source 0", "f fold 0 ; acc+val", "k sink", "s.0 f.0", "f.0 k.0"), "a=1 | a=2 | b=5").at("1 / 0; a:[7]; c:[1] / 2", "a=3 / ", "y=8 | z=9")
	inModes(t, "P16.2", slowModes, k, "1.0 = step", "0.0 = step", "2.0 = step", "trigger = 1", "0.0 = mark", "1.0 = step", "2.0 = step", "1.0 = mark", "2.0 = mark", "post", "post",
		"post = ready: 1 77 {2} {0; a:[12]; c:[1] []} {4 [] <a=10 | a=12>}", "config = 2 / 0; a:[12]; c:[1] / 4 # / # y=8 | z=9 | a=10 | a=12")
	inModes(t, "P16.2", allModes, k.at("3 / 0; a:[7] / 2", "/ ", "y=8 | z=9"), "0.0 = empty", "1.0 = empty", "2.0 = empty", "trigger = 1", "0.0 = mark", "1.0 = mark", "2.0 = mark", "post", "post", "post = ready: 1 77 {3} {0; a:[7] []} {2 []}")
}

// TestTheSum: as it was given.
func TestTheSum(t *testing.T) {
	for _, sum := range []uint32{0, 1, 77, math.MaxUint32} {
		k := kindOf(line(), "")
		k.sum = sum
		r := k.open(t)
		for _, c := range []string{"trigger", "0.0", "1.0", "post"} {
			called(c).of(r)
		}
		if s, did := r.Post(); did != api.DidReady || s.Sum != sum {
			t.Errorf("P16.2: the sum %d is %d in a shot (%d)", sum, s.Sum, did)
		}
	}
}

// TestBooks: a head copies at its port 0's marker in mode Aligned, all others wait for all of their ports; a source has one port.
func TestBooks(t *testing.T) {
	k := kindOf(loop(), "a=1")
	inModes(t, "P16.2", "aligned", k, "trigger = 1", "0.0 = mark", "1.0 = mark", "trail = trigger 1, mark 0.0 1, copy 0 1, part 0 1, mark 1.0 1, copy 1 1", "2.0 = mark", "1.1 = mark", "3.0 = mark",
		"trail = trigger 1, mark 0.0 1, copy 0 1, part 0 1, mark 1.0 1, copy 1 1, mark 2.0 1, copy 2 1, part 2 1, mark 1.1 1, part 1 1, mark 3.0 1, copy 3 1, part 3 1")
	u := kindOf(pen.ReadPlan("a source 0", "e tee", "u union", "k sink", "a.0 e.0", "e.0 u.2", "e.1 u.0", "e.2 u.3", "e.3 u.1", "u.0 k.0"), "a=1")
	lead := []string{"trigger = 1", "0.0 = mark", "1.0 = mark", "2.1 = mark", "2.3 = mark", "2.0 = mark"}
	waits := "trail = trigger 1, mark 0.0 1, copy 0 1, part 0 1, mark 1.0 1, copy 1 1, part 1 1, mark 2.1 1, mark 2.3 1, mark 2.0 1"
	inModes(t, "P16.2", "aligned", u, append(lead, waits, "2.0 = held", "2.1 = held", "2.2 = mark", waits+", mark 2.2 1, copy 2 1, part 2 1", "2.0 = empty", "3.0 = mark")...)
	inModes(t, "P16.2", "recorded overtaking", u, append(lead, "2.0 = empty", "3.0 = mark", "2.2 = mark", "trail = trigger 1, mark 0.0 1, copy 0 1, part 0 1, mark 1.0 1, copy 1 1, part 1 1, mark 2.1 1, copy 2 1, mark 2.3 1, mark 2.0 1, mark 3.0 1, copy 3 1, part 3 1, mark 2.2 1, part 2 1")...)
	j := kindOf(pen.ReadPlan("a source 0", "b source 0", "j join", "k sink", "a.0 j.0", "b.0 j.1", "j.0 k.0"), "a=1")
	inModes(t, "P16.2", "aligned", j, "trigger = 1", "1.0 = mark", "2.1 = mark", "2.1 = held", "3.0 = empty", "0.0 = mark", "2.0 = mark", "3.0 = mark")
	inModes(t, "P16.2", "aligned", j, "trigger = 1", "0.0 = mark", "2.0 = mark", "2.0 = held", "3.0 = empty", "1.0 = mark", "2.1 = mark", "3.0 = mark")
}

// TestOneTapeForTwoSources: each goes through it by itself.
func TestOneTapeForTwoSources(t *testing.T) {
	p := pen.ReadPlan("a source 1", "b source 1", "k sink", "l sink", "a.0 k.0", "b.0 l.0")
	inModes(t, "P16.2, P16.3.4", allModes, kindOf(p, "z=0 / x=1 | y=2"), "1.0 = step", "1.0 = block", "3.0 = step", "1.0 = step", "1.0 = empty", "0.0 = step", "config = 1 / 2 / 0 / 1 # x=1 / y=2 # / x=1")
	if _, e := flow.New(p, pen.ReadLists("z=0")); e != api.ErrFlowTape {
		t.Errorf("P9.1: error %d", e)
	}
}
