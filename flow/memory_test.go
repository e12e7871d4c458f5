package flow_test

import (
	"slices"
	"testing"
	"unsafe"

	"eddy/api"
	"eddy/flow"
	"eddy/memory"
	"eddy/pen"
)

// lent gives a text in bytes of its own, which can be written over afterwards.
func lent(s string) string {
	b := []byte(s)
	return unsafe.String(unsafe.SliceData(b), len(b))
}

// roomy copies a thing: every list has spare room behind it that holds marks, every text is lent.
func roomy[T any](x T) T { return memory.Roomy(x, lent) }

// writeOver writes over a memory of roomy things, its texts too.
func writeOver(m *memory.Memory) {
	for _, s := range m.Texts() {
		pen.Fill([][]byte{unsafe.Slice(unsafe.StringData(s), len(s))}, '#')
	}
	m.Scribble()
}

// An answer is what the calls answer of a configuration and events.
type answer struct {
	Fits    api.Errno
	Enabled []api.Event
	Step    api.Config
	StepErr api.Errno
	Replay  api.Config
	Count   int
	Err     api.Errno
}

// lists gives what of an answer has lists.
func (a answer) lists() []any { return []any{a.Enabled, a.Step, a.Replay} }

func asked(f *flow.Flow, c api.Config, l []api.Event) answer {
	var a answer
	a.Fits, a.Enabled = f.Fits(c), f.Enabled(c)
	a.Step, a.StepErr = f.Step(c, l[0])
	a.Replay, a.Count, a.Err = f.Replay(c, l)
	return a
}

// modelled gives what the model answers.
func (f tried) modelled(c api.Config, l []api.Event) answer {
	var a answer
	a.Fits, a.Enabled = f.fits(c), f.enabled(c)
	a.Step, a.StepErr = f.step(c, l[0])
	a.Replay, a.Count, a.Err = f.replay(c, l)
	return a
}

// question draws a configuration, one that fits in most cases, and events, of which the first or all can happen in most cases.
func question(t *testing.T, d *pen.Pen) (tried, api.Config, []api.Event) {
	t.Helper()
	f, c := drawn(t, d, d.Plan())
	l, _ := f.draw(t, d, c, 8)
	for range pen.One(d, 0, 0, 1, 2) {
		l = slices.Insert(l, d.Below(len(l)+1), api.Event{Task: d.Below(len(c.States)), Port: d.Below(2)})
	}
	if d.Below(8) == 0 {
		c = spoilt(d, c)
	}
	return f, c, append(l, api.Event{})
}

// TestWhatIsHandedInStays: no call changes anything of it, the spare room neither; the answers lie apart from it and from one another, and so do the lists of one answer.
func TestWhatIsHandedInStays(t *testing.T) {
	for seed := range 500 {
		f, c, l := question(t, pen.Seeded(seed))
		want := f.modelled(c, l)
		c, l = roomy(c), roomy(l)
		given := memory.Of(c, l)
		before := given.Told()
		a, b := asked(f.Flow, c, l), asked(f.Flow, c, l)
		f.Same(c, c)
		if given.Told() != before {
			t.Fatalf("P9, The face: %v: a call changes the configuration %v or the events %v", f, tell(c), l)
		}
		if !same(a, want) || !same(b, want) {
			t.Fatalf("P9, The face: %v: with spare room behind the lists, %v and %v answer %s and %s, want %s", f, tell(c), l, shown(a), shown(b), shown(want))
		}
		all := memory.Of(slices.Concat([]any{c, l}, a.lists(), b.lists())...)
		memory.Of(a.lists()...).Scribble()
		if given.Told() != before || !same(b, want) || !same(asked(f.Flow, c, l), want) {
			t.Fatalf("P9, The face: %v: what is written into an answer is seen elsewhere", f)
		}
		if !all.Apart() {
			t.Fatalf("P9, The face: %v: a list of an answer shares memory with another one, handed in or answered", f)
		}
	}
}

// TestNothingIsKept: behind the calls all that was handed in is written over, its texts too; the answers stay.
func TestNothingIsKept(t *testing.T) {
	for seed := range 300 {
		f, c, l := question(t, pen.Seeded(seed))
		want := f.modelled(c, l)
		givenC, givenL := roomy(c), roomy(l)
		got := asked(f.Flow, givenC, givenL)
		writeOver(memory.Of(givenC, givenL))
		if !same(got, want) {
			t.Fatalf("P9, The face: %v: an answer shares memory with what was handed in: %s, want %s", f, shown(got), shown(want))
		}
	}
}

// TestPlanAndTapesAreNotKept: New changes nothing of them; behind it they are written over, and the flow is as it was.
func TestPlanAndTapesAreNotKept(t *testing.T) {
	for seed := range 300 {
		f, c, l := question(t, pen.Seeded(seed))
		want := f.modelled(c, l)
		p, tapes := roomy(f.plan), roomy(f.tapes)
		given := memory.Of(p, tapes)
		before := given.Told()
		g, e := flow.New(p, tapes)
		if e != api.OK || given.Told() != before {
			t.Fatalf("P9, The face: New changes the plan or the tapes of %v, or answers error %d", f, e)
		}
		if !memory.Of(append(asked(g, c, l).lists(), p, tapes, g.Start())...).Apart() {
			t.Fatalf("P9, The face: %v: a list of an answer shares memory with one of the plan or the tapes", f)
		}
		writeOver(given)
		if got := asked(g, c, l); !same(got, want) || !same(g.Start(), f.start()) {
			t.Fatalf("P9, The face: %v keeps the plan or the tapes that it was made of: %s, want %s", f, shown(got), shown(want))
		}
	}
}

// TestAFlowNeverChanges: what is answered is the same behind any other calls, with an error or without, and whatever is written into the answers, their texts too.
func TestAFlowNeverChanges(t *testing.T) {
	for seed := range 120 {
		d := pen.Seeded(seed)
		f, c, l := question(t, d)
		want := f.modelled(c, l)
		for range 4 {
			got, start := asked(f.Flow, c, l), f.Start()
			if !same(got, want) || !same(start, f.start()) {
				t.Fatalf("P9, The face: %v: behind other calls %v and %v are answered with %s, want %s", f, tell(c), l, shown(got), shown(want))
			}
			memory.Of(append(got.lists(), start)...).Scribble()
			other := d.Config(f.plan, f.tapes, 3)
			list, _ := f.draw(t, d, other, 6)
			asked(f.Flow, spoilt(d, other), append(list, api.Event{Task: -1}))
		}
	}
}

// TestAnswersCanBeAppendedTo: what is appended to a lane, an output or a record of an answer is seen in no other.
func TestAnswersCanBeAppendedTo(t *testing.T) {
	for seed := range 300 {
		f, c, l := question(t, pen.Seeded(seed))
		want := f.modelled(c, l)
		got, start := asked(f.Flow, c, l), f.Start()
		for _, c := range []api.Config{got.Step, got.Replay, start} {
			for _, r := range slices.Concat(slices.Concat(c.Lanes...), slices.Concat(c.Outs...)) {
				_, _ = append(r.Loops, 4711, 4711), append(r.Val.Items, val("4711"), val("4711"))
			}
			for _, list := range slices.Concat(c.Lanes, c.Outs) {
				_ = append(list, recs("behind=1 | behind=2 | behind=3")...)
			}
			_, _, _ = append(c.Lanes, recs("behind=1")), append(c.Outs, recs("behind=1")), append(c.States, api.State{Num: 4711})
		}
		_ = append(got.Enabled, api.Event{Task: 4711}, api.Event{Task: 4711})
		if !same(got, want) || !same(start, f.start()) {
			t.Fatalf("P9, The face: %v: what is appended to a list of an answer is seen in another: %s, want %s", f, shown(got), shown(want))
		}
	}
}
