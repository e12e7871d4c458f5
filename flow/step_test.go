package flow_test

import (
	"math"
	"slices"
	"testing"

	"eddy/api"
	"eddy/pen"
)

// A change is what an event does to a configuration: it sets states, lanes and outputs, told by their numbers.
type change struct {
	event  string
	states map[int]string
	lanes  map[int]string
	outs   map[int]string
}

// does fails the test where an event does anything but this.
func (f tried) does(t *testing.T, promise string, c api.Config, x change) {
	t.Helper()
	want := clone(c)
	for k, s := range x.states {
		want.States[k] = state(s)
	}
	for k, l := range x.lanes {
		want.Lanes[k] = recs(l)
	}
	for k, l := range x.outs {
		want.Outs[k] = recs(l)
	}
	e := events(x.event)[0]
	f.wants(t, promise, c, e, want)
	f.replays(t, promise, c, []api.Event{e}, want, 1, api.OK)
}

func TestWhatAnEventDoes(t *testing.T) {
	f, c := middle(t)
	for _, x := range []change{
		{event: "0.0", states: map[int]string{0: "2"}, lanes: map[int]string{11: ""}, outs: map[int]string{0: "z=0 | b=[5]"}},
		{event: "1.1", states: map[int]string{1: "0; a:[1, 2]; b:[3, 1, 2]; c:[2, 6]"}, lanes: map[int]string{2: ""}},
		{event: "2.0", states: map[int]string{2: "4"}, lanes: map[int]string{1: "a=7"}},
		{event: "3.0", lanes: map[int]string{4: "", 5: "a=2 | a=4@1 | b=4"}},
		{event: "4.0", states: map[int]string{4: "3"}, lanes: map[int]string{4: "b=3 | a=3"}},
		{event: "5.0", lanes: map[int]string{5: "a=4@1", 6: "a=2"}},
		{event: "7.1", lanes: map[int]string{3: "", 11: "b=[5] | a=[1, 2]"}},
		{event: "7.2", lanes: map[int]string{10: "", 11: "b=[5] | x=none@0@9@1"}},
		{event: "10.0", states: map[int]string{10: "0; a:[4]; c:[6]"}, lanes: map[int]string{0: ""}},
	} {
		f.does(t, "P9.5", c, x)
	}
	c.Lanes[0], c.Lanes[1], c.Lanes[2], c.Lanes[6], c.Lanes[7], c.Lanes[8] = recs("a=9 | a=8"), recs("q=2 | q=3"), recs("b=6"), recs("a=5"), recs("a=[1]@3"), recs("a=3 | b=4")
	for _, x := range []change{
		{event: "1.0", states: map[int]string{1: "0; a:[1, [1]]; b:[3, 1, 2]"}, lanes: map[int]string{7: ""}},
		{event: "1.1", states: map[int]string{1: "0; a:[1, 2]; b:[3, 1, 6]"}, lanes: map[int]string{2: "", 8: "a=3 | b=4 | b=[1, 6]"}},
		{event: "6.0", states: map[int]string{6: "0; a:[7]"}, lanes: map[int]string{6: "", 7: "a=[1]@3 | a=7"}},
		{event: "8.0", lanes: map[int]string{8: "b=4", 9: "a=3"}},
		{event: "9.0", lanes: map[int]string{1: "q=3", 0: "a=9 | a=8 | q=2", 2: "b=6 | q=2"}},
		{event: "10.0", states: map[int]string{10: "0"}, lanes: map[int]string{0: "a=8", 3: "a=[1, 2] | a=[4, 9]"}},
	} {
		f.does(t, "P9.5", c, x)
	}
}

func TestWhatAnEventOfALoopDoes(t *testing.T) {
	f := made(t, round(), lists("/ / a=1 | b=2"))
	c := config("1 / 0 / 0; a:[] / 0 / 1", "a=1@0 | b=9@0 / c=3 / x=1@2 | y=2@2 / z=7@1@4 / a=1", "o=0")
	for _, x := range []change{
		{event: "0.0", states: map[int]string{0: "2"}, lanes: map[int]string{1: ""}, outs: map[int]string{0: "o=0 | c=3"}},
		{event: "1.0", lanes: map[int]string{2: "y=2@2", 3: "z=7@1@4 | x=1@3"}},
		{event: "2.0", lanes: map[int]string{0: "b=9@0"}},
		{event: "3.0", lanes: map[int]string{4: "", 0: "a=1@0 | b=9@0 | a=1@0"}},
		{event: "3.1", lanes: map[int]string{3: "", 0: "a=1@0 | b=9@0 | z=7@1@4"}},
		{event: "4.0", states: map[int]string{4: "2"}, lanes: map[int]string{4: "a=1 | b=2"}},
	} {
		f.does(t, "P9.5", c, x)
	}
	c.Lanes[2] = recs("y=2@2")
	f.does(t, "P9.5", c, change{event: "1.0", lanes: map[int]string{2: "", 1: "c=3 | y=2"}})
}

// TestSeveralSinks: the outputs stand in the order of the sinks, and each of them is its own sink's.
func TestSeveralSinks(t *testing.T) {
	p := planned("m sink", "s source 0", "l sink", "t tee", "k sink", "s.0 t.0", "t.1 m.0", "t.2 k.0", "t.0 l.0")
	f := made(t, p, lists("a=1"))
	c := config("1 / 0 / 0 / 0 / 2", "b=2 / m=1 / k=1 / l=1", "x=1 / / y=1 | y=2")
	f.does(t, "P9.5", c, change{event: "0.0", states: map[int]string{0: "2"}, lanes: map[int]string{1: ""}, outs: map[int]string{0: "x=1 | m=1"}})
	f.does(t, "P9.5", c, change{event: "2.0", states: map[int]string{2: "1"}, lanes: map[int]string{3: ""}, outs: map[int]string{1: "l=1"}})
	f.does(t, "P9.5", c, change{event: "4.0", states: map[int]string{4: "3"}, lanes: map[int]string{2: ""}, outs: map[int]string{2: "y=1 | y=2 | k=1"}})
	f.does(t, "P9.5", c, change{event: "3.0", lanes: map[int]string{0: "", 1: "m=1 | b=2", 2: "k=1 | b=2", 3: "l=1 | b=2"}})
}

// TestWhichEventsThereAre: P9.4, tasks and ports at and beyond both ends.
func TestWhichEventsThereAre(t *testing.T) {
	f, c := middle(t)
	ports := []int{1, 2, 1, 1, 1, 1, 1, 3, 1, 1, 1}
	for task := -2; task <= len(ports)+1; task++ {
		for port := -2; port <= 5; port++ {
			e := api.Event{Task: task, Port: port}
			there := task >= 0 && task < len(ports) && port >= 0 && port < ports[task]
			if _, err := f.Step(c, e); (err != api.ErrFlowEvent) != there {
				t.Errorf("P9.5.2: %v: Step of %v answers error %d", f, e, err)
			}
			if !there {
				f.refuses(t, "P9.5.2", c, e, api.ErrFlowEvent)
			}
		}
	}
	for _, n := range []int{math.MinInt, math.MinInt32, 1 << 32, math.MaxInt} {
		f.refuses(t, "P9.5.2", c, api.Event{Task: n}, api.ErrFlowEvent)
		for task := range ports {
			f.refuses(t, "P9.5.2", c, api.Event{Task: task, Port: n}, api.ErrFlowEvent)
		}
	}
}

// TestTheFirstErrorOfAStep: a configuration that doesn't fit, then no such event, then nothing to take.
func TestTheFirstErrorOfAStep(t *testing.T) {
	f := made(t, line(), lists("a=1"))
	none, bad := config("1 / 0", "", ""), config("1 / 1", "", "")
	for _, e := range events("0.0 1.0 0.1 1.1 2.0 -1.0 0.-1 1.-1") {
		f.refuses(t, "P9.5.1: ahead of all others", bad, e, api.ErrFlowFit)
	}
	for _, e := range events("0.1 1.1 2.0 -1.0 0.-1 1.-1") {
		f.refuses(t, "P9.5.2: ahead of what there is to take", none, e, api.ErrFlowEvent)
	}
	for _, e := range events("0.0 1.0") {
		f.refuses(t, "P9.5.3", none, e, api.ErrFlowStuck)
	}
}

func TestNothingToTake(t *testing.T) {
	f := made(t, line(), emptyTapes(2))
	f.refuses(t, "P9.5.3: an empty tape", f.Start(), api.Event{}, api.ErrFlowStuck)
	f, c := middle(t)
	for _, e := range events("1.0 6.0 7.0 8.0 9.0") {
		f.refuses(t, "P9.5.3: an empty lane", c, e, api.ErrFlowStuck)
	}
	c.States[2].Num, c.States[4].Num = 4, 3
	f.refuses(t, "P9.5.3: the end of the tape", c, api.Event{Task: 2}, api.ErrFlowStuck)
	f.refuses(t, "P9.5.3: the end of the tape", c, api.Event{Task: 4}, api.ErrFlowStuck)
	c.Lanes = make([][]api.Record, len(c.Lanes))
	if l := f.Enabled(c); len(l) != 0 {
		t.Errorf("P9.6: %v are enabled where there is nothing to take", l)
	}
	for _, e := range f.asked() {
		if _, err := f.Step(c, e); err != api.ErrFlowStuck && err != api.ErrFlowEvent {
			t.Errorf("P9.5.3: Step of %v answers error %d where there is nothing to take", e, err)
		}
	}
}

// emptyTapes gives so many empty tapes.
func emptyTapes(count int) [][]api.Record { return make([][]api.Record, count) }

// TestALongTape: a source reads a tape of 64 records to its end, and puts them into a lane that has no bound.
func TestALongTape(t *testing.T) {
	var tape []api.Record
	for n := range 64 {
		tape = append(tape, api.Record{Key: "k", Val: api.Value{Kind: api.Int, Int: int64(n)}})
	}
	f := made(t, line(), [][]api.Record{tape})
	c := f.run(t, f.Start(), make([]api.Event, 64))
	if !same(c, api.Config{States: []api.State{{Num: 64}, {}}, Lanes: [][]api.Record{tape}, Outs: emptyTapes(1)}) {
		t.Errorf("P9.5: a tape of 64 records leads to %v", tell(c))
	}
	f.refuses(t, "P9.5.3: the end of a tape of 64", c, api.Event{}, api.ErrFlowStuck)
	c = f.run(t, c, slices.Repeat([]api.Event{{Task: 1}}, 64))
	if !same(c, api.Config{States: []api.State{{Num: 64}, {Num: 64}}, Lanes: emptyTapes(1), Outs: [][]api.Record{tape}}) {
		t.Errorf("P9.5: a lane of 64 records leads to %v", tell(c))
	}
}

func TestEnabled(t *testing.T) {
	f, c := middle(t)
	if got, want := f.Enabled(c), events("0.0 1.1 2.0 3.0 4.0 5.0 7.1 7.2 10.0"); !same(got, want) {
		t.Errorf("P9.6: %v are enabled, want %v", got, want)
	}
	for k := range c.Lanes {
		c.Lanes[k] = recs("a=1 | b=2")
	}
	if got, want := f.Enabled(c), events("0.0 1.0 1.1 2.0 3.0 4.0 5.0 6.0 7.0 7.1 7.2 8.0 9.0 10.0"); !same(got, want) {
		t.Errorf("P9.6: %v are enabled, want %v", got, want)
	}
	if got, want := f.Enabled(f.Start()), events("2.0 4.0"); !same(got, want) {
		t.Errorf("P9.6: %v are enabled at the start, want %v", got, want)
	}
	c.States[0].Num++
	if got := f.Enabled(c); len(got) != 0 {
		t.Errorf("P9.6: %v are enabled in a configuration that doesn't fit", got)
	}
}

func TestReplay(t *testing.T) {
	f := made(t, line(), lists("a=1 | b=2"))
	start, half := f.Start(), config("2 / 1", "b=2", "a=1")
	end := config("2 / 2", "", "a=1 | b=2")
	for _, x := range []struct {
		from  api.Config
		list  string
		want  api.Config
		count int
		err   api.Errno
	}{
		{start, "", start, 0, api.OK},
		{half, "", half, 0, api.OK},
		{start, "0.0 0.0 1.0", half, 3, api.OK},
		{start, "0.0 1.0 0.0", half, 3, api.OK},
		{half, "1.0", end, 1, api.OK},
		{start, "0.0 0.0 1.0 0.0", half, 3, api.ErrFlowStuck},
		{start, "0.0 0.0 1.0 0.0 1.0", half, 3, api.ErrFlowStuck},
		{start, "0.0 0.0 1.0 1.1 1.0", half, 3, api.ErrFlowEvent},
		{start, "0.0 0.0 1.0 -1.0 7.7", half, 3, api.ErrFlowEvent},
		{start, "1.0 0.0 0.0", start, 0, api.ErrFlowStuck},
		{start, "2.0 0.0", start, 0, api.ErrFlowEvent},
		{half, "0.0", half, 0, api.ErrFlowStuck},
		{half, "0.1 1.0", half, 0, api.ErrFlowEvent},
		{end, "1.0 0.0", end, 0, api.ErrFlowStuck},
		{config("2 / 2", "b=2", "a=1"), "1.0", api.Config{}, 0, api.ErrFlowFit},
		{config("2 / 2", "b=2", "a=1"), "", api.Config{}, 0, api.ErrFlowFit},
		{config("2 / 2", "b=2", "a=1"), "9.9", api.Config{}, 0, api.ErrFlowFit},
		{api.Config{}, "", api.Config{}, 0, api.ErrFlowFit},
	} {
		f.replays(t, "P9.7", x.from, events(x.list), x.want, x.count, x.err)
		f.replays(t, "P9.7", x.from, append([]api.Event{}, events(x.list)...), x.want, x.count, x.err)
	}
}

// TestDrawnReplays: lists of events that can be played whole or not, against the model.
func TestDrawnReplays(t *testing.T) {
	found := map[api.Errno]int{}
	for seed := range 600 {
		d := pen.Seeded(seed)
		f, c := drawn(t, d, d.Plan())
		l, _ := f.draw(t, d, c, 30)
		for range d.Below(3) {
			e := api.Event{Task: d.Between(-1, len(c.States)), Port: d.Between(-1, 2)}
			l = slices.Insert(l, d.Below(len(l)+1), e)
		}
		if d.Below(8) == 0 {
			c = spoilt(d, c)
		}
		want, count, err := f.replay(c, l)
		found[err]++
		f.replays(t, "P9.7", c, l, want, count, err)
	}
	for _, e := range []api.Errno{api.OK, api.ErrFlowFit, api.ErrFlowEvent, api.ErrFlowStuck} {
		if found[e] < 40 {
			t.Errorf("the drawn errors are %v", found)
		}
	}
}

// TestTheChaptersExamples: numbers 1 to 3.
func TestTheChaptersExamples(t *testing.T) {
	f := made(t, line(), lists("a=1 | b=2"))
	start := config("0 / 0", "", "")
	if got := f.Start(); !same(got, start) {
		t.Errorf("P9.2, example 1: Start answers %v", tell(got))
	}
	behind := config("1 / 0", "a=1", "")
	for _, x := range []struct {
		c    api.Config
		want string
	}{{start, "0.0"}, {behind, "0.0 1.0"}} {
		if got := f.Enabled(x.c); !same(got, events(x.want)) {
			t.Errorf("P9.6, example 1: Enabled(%v) answers %v, want %s", tell(x.c), got, x.want)
		}
	}
	f.wants(t, "P9.5, example 1", start, api.Event{}, behind)
	f.replays(t, "P9.7, example 1", start, events("0.0 0.0 1.0 0.0"), config("2 / 1", "b=2", "a=1"), 3, api.ErrFlowStuck)
	f.refuses(t, "P9.5, example 2", start, api.Event{Task: 1}, api.ErrFlowStuck)
	for _, e := range events("1.1 2.0 -1.0 0.1") {
		f.refuses(t, "P9.5, example 2", start, e, api.ErrFlowEvent)
	}
	refusesNew(t, "P9.1, example 3", line(), nil, api.ErrFlowTape)
	refusesNew(t, "P9.1, example 3", line(), [][]api.Record{nil, nil, make([]api.Record, 65)}, api.ErrFlowTape)
}
