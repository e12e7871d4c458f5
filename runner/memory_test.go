package runner_test

import (
	"math"
	"slices"
	"testing"
	"unsafe"

	"eddy/api"
	"eddy/equal"
	"eddy/memory"
	"eddy/pen"
	"eddy/runner"
)

const rules = "P16, The face"

// lent gives a text in bytes of its own, which can be written over afterwards.
func lent(s string) string {
	b := []byte(s)
	return unsafe.String(unsafe.SliceData(b), len(b))
}

// roomy gives a kind of which everything can be written over.
func (k kind) roomy() kind {
	k.plan, k.tapes, k.start = memory.Roomy(k.plan, lent), memory.Roomy(k.tapes, lent), memory.Roomy(k.start, lent)
	return k
}

func (k kind) handed() *memory.Memory { return memory.Of(k.plan, k.tapes, k.start) }

// writeOver writes over all that hangs on a roomy kind, its texts too.
func (k kind) writeOver() {
	m := k.handed()
	for _, s := range m.Texts() {
		pen.Fill([][]byte{unsafe.Slice(unsafe.StringData(s), len(s))}, '#')
	}
	m.Scribble()
}

// lists gives what of an answer has lists.
func (a answer) lists() []any { return []any{a.Shot, a.Tasks, a.Config, a.Trail} }

// questions gives what can be asked at any time.
func questions() []call { return []call{called("under"), called("config"), called("trail")} }

// TestWhatIsHandedInStays: no call changes anything of it, the spare room neither; and no list that is answered shares memory with another one, handed in or answered.
func TestWhatIsHandedInStays(t *testing.T) {
	for seed := range 120 {
		w := seeded(seed)
		k := w.kind()
		given := k.roomy()
		before := given.handed().Told()
		r, m := given.open(t), k.model()
		all := []any{given.plan, given.tapes, given.start}
		for n, c := range w.script(k, 150) {
			counts := memory.Roomy(c.Counts, lent)
			told := memory.Of(counts).Told()
			got, want := call{c.What, c.Task, c.Port, c.Id, c.Ok, counts}.of(r), c.of(m)
			if !same(got, want) {
				t.Fatalf("%s: %v: %v answers %s, want %s", rules, k, c, c.told(got), c.told(want))
			}
			if memory.Of(counts).Told() != told || n%30 == 0 && given.handed().Told() != before {
				t.Fatalf("%s: %v: %v, or a call ahead of it, changes what was handed in, or the spare room behind it", rules, k, c)
			}
			all = append(all, counts, got.Shot)
			for _, q := range questions() {
				if n%20 == 0 || c.What == "post" && got.Number == api.DidReady {
					all = append(all, q.of(r).lists()...)
				}
			}
		}
		if !memory.Of(all...).Apart() {
			t.Fatalf("%s: %v: a list that is answered shares memory with another one", rules, k)
		}
	}
}

// TestNothingIsKept: all that is handed in, its texts too, is written over behind the call, and so is all that is answered.
func TestNothingIsKept(t *testing.T) {
	for seed := range 250 {
		w := seeded(seed)
		k := w.kind()
		given := k.roomy()
		r, m := given.open(t), k.model()
		given.writeOver()
		for _, c := range w.script(k, 150) {
			counts := memory.Roomy(c.Counts, lent)
			made := append([]call{{c.What, c.Task, c.Port, c.Id, c.Ok, counts}}, questions()...)
			for n, q := range append([]call{c}, questions()...) {
				got, want := made[n].of(r), q.of(m)
				if !same(got, want) {
					t.Fatalf("%s: %v: %v, %v answers %s, want %s: what was handed in or answered before has been written over", rules, k, c, q, q.told(got), q.told(want))
				}
				memory.Of(got.lists()...).Scribble()
			}
			memory.Of(counts).Scribble()
		}
	}
}

// TestAnswersCanBeAppendedTo: what is appended to one list of an answer is seen in no other one.
func TestAnswersCanBeAppendedTo(t *testing.T) {
	for seed := range 150 {
		w := seeded(seed)
		k := w.kind()
		r, m := k.open(t), k.model()
		var got, want []answer
		for _, c := range w.script(k, 100) {
			for _, q := range append([]call{c}, questions()...) {
				a := q.of(r)
				memory.Of(a.lists()...).Extend()
				got, want = append(got, a), append(want, q.of(m))
			}
		}
		if !slices.EqualFunc(got, want, same) {
			t.Fatalf("%s: %v: what is appended to a list of an answer is seen in another one", rules, k)
		}
	}
}

// TestOneListHandedInTwice: what is one list in the arguments is not one in the answers.
func TestOneListHandedInTwice(t *testing.T) {
	val := api.Value{Kind: api.List, Items: []api.Value{{Kind: api.Int, Int: 1}}}
	twice := api.Value{Kind: api.List, Items: []api.Value{val, val}}
	tape := []api.Record{{Key: "a", Val: twice}, {Key: "b", Val: twice}}
	lane := []api.Record{{Key: "a", Val: twice, Loops: []int{1}}, {Key: "b", Val: twice, Loops: []int{1}}}
	p := pen.ReadPlan("s source 0", "r source 1", "f fold none ; val", "g fold none ; val", "k sink", "l sink", "s.0 f.0", "r.0 g.0", "f.0 k.0", "g.0 l.0")
	cells := api.State{Cells: []api.Cell{{Key: "a", Vals: twice.Items[:1]}, {Key: "b", Vals: twice.Items[:1]}}}
	for mode := 1; mode <= 3; mode++ {
		k := kind{p, [][]api.Record{tape, tape}, mode, api.Config{States: []api.State{{}, {}, cells, cells, {Num: 2}, {Num: 2}}, Lanes: [][]api.Record{lane, lane, lane, lane}, Outs: [][]api.Record{lane, lane}}, 1, 0}
		before := k.handed().Told()
		w := k.watch(t)
		for _, l := range []string{"4.0", "5.0", "4.0", "5.0", "2.0", "3.0", "commit 0 0", "trigger", "0.0", "1.0"} {
			if _, why := w.does(called(l)); why != "" {
				t.Fatalf("%v: %s", w, why)
			}
		}
		var all []any
		for range 40 {
			for _, c := range append(k.model().picks(), called("post"), called("config")) {
				all = append(all, c.of(w.run).lists()...)
			}
		}
		if l := w.run.Trail(); !slices.Contains(l, api.Trail{Kind: api.TrailReady, Id: 1}) {
			t.Errorf("%v: no shot got ready", w)
		}
		if !memory.Of(all...).Apart() || k.handed().Told() != before {
			t.Errorf("%s: mode %d: lists of answers share memory with one another, or with what was handed in", rules, mode)
		}
	}
}

// emptied gives the kind with lists that are nil, empty, or empty with spare room, where they hold nothing.
func (k kind) emptied(how int) kind {
	k.plan.Tasks, k.tapes = slices.Clone(k.plan.Tasks), slices.Clone(k.tapes)
	k.start = api.Config{States: slices.Clone(k.start.States), Lanes: slices.Clone(k.start.Lanes), Outs: slices.Clone(k.start.Outs)}
	for n := range k.plan.Tasks {
		empty(&k.plan.Tasks[n].Exprs, how)
	}
	for n := range k.start.States {
		empty(&k.start.States[n].Cells, how)
	}
	for _, all := range [][][]api.Record{k.tapes, k.start.Lanes, k.start.Outs} {
		for n := range all {
			all[n] = slices.Clone(all[n])
			for m := range all[n] {
				empty(&all[n][m].Loops, how)
				empty(&all[n][m].Val.Items, how)
			}
			empty(&all[n], how)
		}
	}
	return k
}

func empty[T any](list *[]T, how int) {
	if len(*list) == 0 {
		*list = [][]T{nil, {}, make([]T, 3)[:0]}[how]
	}
}

// TestNilAndEmptyAreTheSame: as each list that is handed in.
func TestNilAndEmptyAreTheSame(t *testing.T) {
	for seed := range 120 {
		w := seeded(seed)
		k := w.kind()
		script := w.script(k, 100)
		for how := range 3 {
			r, m := k.emptied(how).open(t), k.model()
			for _, c := range script {
				given := c
				empty(&given.Counts, how)
				for _, q := range append([]call{given}, questions()...) {
					if got, want := q.of(r), q.of(m); !same(got, want) {
						t.Fatalf("%s: %v: with lists that are nil, empty or roomy, %v answers %s, want %s", rules, k, q, q.told(got), q.told(want))
					}
				}
			}
		}
	}
	k := kindOf(line(), "")
	for how := range 3 {
		k.start = api.Config{}
		empty(&k.start.States, how)
		empty(&k.start.Lanes, how)
		empty(&k.start.Outs, how)
		news(t, "P16.1.3", k, api.ErrFlowFit)
		k.plan = api.Plan{Cap: 1}
		empty(&k.plan.Tasks, how)
		empty(&k.plan.Edges, how)
		empty(&k.tapes, how)
		news(t, "P16.1.1", k, api.ErrShapeSize)
		k.plan = line()
		empty(&k.tapes, how)
		k.tapes = k.tapes[:0]
		news(t, "P16.1.1", k, api.ErrFlowTape)
		k = kindOf(line(), "")
	}
}

// TestRunnersBesideOneAnother: what one is told the others don't see, though they were made of the same lists.
func TestRunnersBesideOneAnother(t *testing.T) {
	for seed := range 60 {
		w := seeded(seed)
		k := w.kind()
		var all []*watch
		for mode := 1; mode <= 3; mode++ {
			all = append(all, k.in(mode).watch(t), k.in(mode).watch(t))
		}
		other := w.kind()
		all = append(all, other.watch(t), other.watch(t))
		for range 400 {
			one := all[w.Below(len(all))]
			if _, why := one.does(w.call(one.model)); why != "" {
				t.Fatalf("a runner among others: %v: %s", one, why)
			}
		}
	}
}

// TestTheSameCallsGetTheSameAnswers: what a runner answers hangs on what it was told alone.
func TestTheSameCallsGetTheSameAnswers(t *testing.T) {
	for seed := range 100 {
		w := seeded(seed)
		k := w.kind()
		a, b := k.open(t), k.open(t)
		for _, c := range w.script(k, 120) {
			for range w.Below(3) {
				for _, q := range questions() {
					q.of(a)
				}
				a.Pick(-1, 0)
				a.Pick(0, 4)
				a.Settle(-1, true)
			}
			if got, want := c.of(a), c.of(b); !same(got, want) {
				t.Fatalf("%s: %v: behind questions %v answers %s, want %s", rules, k, c, c.told(got), c.told(want))
			}
		}
		if !equal.Config(a.Config(), b.Config()) || !slices.Equal(a.Trail(), b.Trail()) {
			t.Fatalf("%s: %v: behind questions another thing is told", rules, k)
		}
	}
}

// TestNewOfAnything: it ends and doesn't panic, whatever it is handed.
func TestNewOfAnything(t *testing.T) {
	numbers := []int{math.MinInt, -1, 0, 1, 2, 3, 4, 9999, 10000, 10001, math.MaxInt}
	for seed := range 1500 {
		w := pen.SeededWild(seed)
		lists := func(count int) (all [][]api.Record) {
			for range count {
				all = append(all, w.Records(2))
			}
			return all
		}
		k := seeded(seed).kind()
		k.mode, k.next = pen.One(w.Pen, k.mode, numbers...), pen.One(w.Pen, k.next, numbers...)
		if w.Below(3) == 0 {
			k.tapes = lists(w.Below(5))
		}
		switch w.Below(4) {
		case 0:
			k.start = api.Config{States: make([]api.State, len(k.plan.Tasks)), Lanes: lists(len(k.plan.Edges)), Outs: lists(len(k.start.Outs))}
		case 1:
			k.start.States[w.Below(len(k.start.States))] = w.State()
		case 2:
			k.start.Lanes[w.Below(len(k.start.Lanes))] = []api.Record{{Key: "deep", Val: pen.Deep(1 << 12)}}
		}
		if w.Below(6) == 0 {
			k.plan.Edges = k.plan.Edges[1:]
		}
		r, e := runner.New(k.plan, k.tapes, k.mode, k.start, k.next, k.sum)
		if (r == nil) != (e != api.OK) {
			t.Fatalf("P16.1: New answers a runner: %v, beside error %d", r != nil, e)
		}
	}
}
