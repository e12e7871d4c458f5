package fleet_test

import (
	"slices"
	"testing"
	"unsafe"

	"eddy/api"
	"eddy/equal"
	"eddy/memory"
	"eddy/pen"
)

// lent gives a text in bytes of its own, which can be written over afterwards.
func lent(s string) string {
	b := []byte(s)
	return unsafe.String(unsafe.SliceData(b), len(b))
}

// roomy gives a kind of which everything can be written over.
func (k kind) roomy() kind {
	k.plan, k.tapes, k.place, k.start = memory.Roomy(k.plan, lent), memory.Roomy(k.tapes, lent), memory.Roomy(k.place, lent), memory.Roomy(k.start, lent)
	return k
}

func (k kind) handed() *memory.Memory { return memory.Of(k.plan, k.tapes, k.place, k.start) }

// writeOver writes over all that hangs on a roomy kind, its texts too.
func (k kind) writeOver() {
	m := k.handed()
	for _, s := range m.Texts() {
		pen.Fill([][]byte{unsafe.Slice(unsafe.StringData(s), len(s))}, '#')
	}
	m.Scribble()
}

// lists gives what of an answer has lists.
func (a answer) lists() []any { return []any{a.Shot, a.Flights, a.Config, a.Here, a.Trail} }

// TestWhatIsHandedInStays: no call changes anything of it, the spare room neither; and no list that is answered shares memory with another one, handed in or answered.
func TestWhatIsHandedInStays(t *testing.T) {
	for seed := range 100 {
		w := seeded(seed)
		k := w.kind()
		given := k.roomy()
		before := given.handed().Told()
		f, m := given.open(t), k.model()
		all := []any{given.plan, given.tapes, given.place, given.start}
		for n, c := range w.script(k, 150) {
			got, want := c.of(f), c.of(m)
			if !same(got, want) {
				t.Fatalf("%s: %v: %v answers %s, want %s", rules, k, c, c.told(got), c.told(want))
			}
			if n%30 == 0 && given.handed().Told() != before {
				t.Fatalf("%s: %v: %v, or a call ahead of it, changes what was handed in, or the spare room behind it", rules, k, c)
			}
			all = append(all, got.Shot)
			for _, q := range questions() {
				if n%20 == 0 || got.Number == api.DidReady && c.What == "post" {
					all = append(all, q.of(f).lists()...)
				}
			}
		}
		if given.handed().Told() != before {
			t.Fatalf("%s: %v: what was handed in has changed", rules, k)
		}
		if !memory.Of(all...).Apart() {
			t.Fatalf("%s: %v: a list that is answered shares memory with another one", rules, k)
		}
	}
}

// TestNewLeavesWhatItRefuses: what isn't taken is not changed either.
func TestNewLeavesWhatItRefuses(t *testing.T) {
	for seed := range 200 {
		w := seeded(seed)
		k := w.kind()
		w.spoil(&k)
		if w.Below(3) == 0 {
			k.place = k.place[1:]
		}
		given := k.roomy()
		before := given.handed().Told()
		given.made()
		if given.handed().Told() != before {
			t.Fatalf("%s: %v: New changes what it is handed", rules, k)
		}
	}
}

// TestNothingIsKept: all that is handed in, its texts too, is written over behind New, and all that is answered behind each call.
func TestNothingIsKept(t *testing.T) {
	for seed := range 200 {
		w := seeded(seed)
		k := w.kind()
		given := k.roomy()
		f, m := given.open(t), k.model()
		given.writeOver()
		for _, c := range w.script(k, 150) {
			for _, q := range append([]call{c}, questions()...) {
				got, want := q.of(f), q.of(m)
				if !same(got, want) {
					t.Fatalf("%s: %v: %v, %v answers %s, want %s: what was handed in or answered before has been written over", rules, k, c, q, q.told(got), q.told(want))
				}
				memory.Of(got.lists()...).Scribble()
			}
		}
	}
}

// TestAnswersCanBeAppendedTo: what is appended to one list of an answer is seen in no other one.
func TestAnswersCanBeAppendedTo(t *testing.T) {
	for seed := range 120 {
		w := seeded(seed)
		k := w.kind()
		f, m := k.open(t), k.model()
		var got, want []answer
		for _, c := range w.script(k, 100) {
			for _, q := range append([]call{c}, questions()...) {
				a := q.of(f)
				memory.Of(a.lists()...).Extend()
				got, want = append(got, a), append(want, q.of(m))
			}
		}
		if !slices.EqualFunc(got, want, same) {
			t.Fatalf("%s: %v: what is appended to a list of an answer is seen in another one", rules, k)
		}
	}
}

// TestOneListHandedInTwice: what is one list in the arguments is not one in the answers.
func TestOneListHandedInTwice(t *testing.T) {
	val := api.Value{Kind: api.List, Items: []api.Value{{Kind: api.Int, Int: 1}}}
	twice := api.Value{Kind: api.List, Items: []api.Value{val, val}}
	tape := []api.Record{{Key: "a", Val: twice}, {Key: "b", Val: twice}}
	lane := []api.Record{{Key: "a", Val: twice, Loops: []int{1}}, {Key: "b", Val: twice, Loops: []int{1}}}
	p := pen.ReadPlan("s source 0", "r source 1", "f fold none ; val", "g fold none ; val", "k sink", "l sink", "s.0 f.0", "r.0 g.0", "f.0 k.0", "g.0 l.0")
	cells := api.State{Cells: []api.Cell{{Key: "a", Vals: twice.Items[:1]}, {Key: "b", Vals: twice.Items[:1]}}}
	for mode := 1; mode <= 3; mode++ {
		k := kind{p, [][]api.Record{tape, tape}, mode, []int{0, 1, 2, 1, 0, 1}, api.Config{States: []api.State{{}, {}, cells, cells, {Num: 2}, {Num: 2}}, Lanes: [][]api.Record{lane, lane, lane, lane}, Outs: [][]api.Record{lane, lane}}, 1, 0}
		before := k.handed().Told()
		w := k.watch(t)
		w.must(t, call{What: "trigger"})
		var all []any
		for range 40 {
			for _, c := range append(w.model.picks(), called("post"), called("tick 0"), called("tick 2"), called("deliver 0"), called("deliver 0"), called("deliver 0")) {
				all = append(all, w.must(t, c).lists()...)
			}
			for _, q := range questions() {
				all = append(all, q.of(w.fleet).lists()...)
			}
		}
		if l := w.fleet.Trail(); !slices.Contains(l, api.Trail{Kind: api.TrailReady, Id: 1}) {
			t.Errorf("%v: no shot got ready", w)
		}
		if !memory.Of(all...).Apart() || k.handed().Told() != before {
			t.Errorf("%s: mode %d: lists of answers share memory with one another, or with what was handed in", rules, mode)
		}
	}
}

// emptied gives the kind with lists that are nil, empty, or empty with spare room, where they hold nothing.
func (k kind) emptied(how int) kind {
	k.plan.Tasks, k.tapes = slices.Clone(k.plan.Tasks), slices.Clone(k.tapes)
	k.start = api.Config{States: slices.Clone(k.start.States), Lanes: slices.Clone(k.start.Lanes), Outs: slices.Clone(k.start.Outs)}
	for n := range k.plan.Tasks {
		empty(&k.plan.Tasks[n].Exprs, how)
	}
	for n := range k.start.States {
		empty(&k.start.States[n].Cells, how)
	}
	for _, all := range [][][]api.Record{k.tapes, k.start.Lanes, k.start.Outs} {
		for n := range all {
			all[n] = slices.Clone(all[n])
			for m := range all[n] {
				empty(&all[n][m].Loops, how)
				empty(&all[n][m].Val.Items, how)
			}
			empty(&all[n], how)
		}
	}
	return k
}

func empty[T any](list *[]T, how int) {
	if len(*list) == 0 {
		*list = [][]T{nil, {}, make([]T, 3)[:0]}[how]
	}
}

// TestNilAndEmptyAreTheSame: as each list that is handed in.
func TestNilAndEmptyAreTheSame(t *testing.T) {
	for seed := range 100 {
		w := seeded(seed)
		k := w.kind()
		script := w.script(k, 100)
		for how := range 3 {
			f, m := k.emptied(how).open(t), k.model()
			for _, c := range script {
				for _, q := range append([]call{c}, questions()...) {
					if got, want := q.of(f), q.of(m); !same(got, want) {
						t.Fatalf("%s: %v: with lists that are nil, empty or roomy, %v answers %s, want %s", rules, k, q, q.told(got), q.told(want))
					}
				}
			}
		}
	}
	for how := range 3 {
		k := kindOf(line(), "")
		empty(&k.place, how)
		news(t, "P24.1", k, api.ErrFleetPlace)
		k.start = api.Config{}
		empty(&k.start.States, how)
		empty(&k.start.Lanes, how)
		empty(&k.start.Outs, how)
		news(t, "P24.1", k, api.ErrFlowFit)
		k.tapes = nil
		empty(&k.tapes, how)
		news(t, "P24.1", k, api.ErrFlowTape)
		k.plan = api.Plan{Cap: 1}
		empty(&k.plan.Tasks, how)
		empty(&k.plan.Edges, how)
		news(t, "P24.1", k, api.ErrShapeSize)
	}
}

// TestFleetsBesideOneAnother: what one is told the others don't see, though they were made of the same lists.
func TestFleetsBesideOneAnother(t *testing.T) {
	for seed := range 50 {
		w := seeded(seed)
		k := w.kind()
		var all []*watch
		for mode := 1; mode <= 3; mode++ {
			all = append(all, k.in(mode).watch(t), k.in(mode).on(w.places(len(k.place))...).watch(t))
		}
		other := w.kind()
		all = append(all, other.watch(t), other.watch(t))
		for range 400 {
			one := all[w.Below(len(all))]
			w.queue = nil
			if _, why := one.does(w.call(one.model)); why != "" {
				t.Fatalf("%s: a fleet among others: %v: %s", rules, one, why)
			}
		}
	}
}

// TestCallsThatChangeNothing: those whose answers say so can be left out, and all else is as before.
func TestCallsThatChangeNothing(t *testing.T) {
	idle := map[string]int{}
	for seed := range 150 {
		w := seeded(seed)
		k := w.kind()
		f, calm := k.open(t), k.open(t)
		for _, c := range w.script(k, 150) {
			for range w.Below(3) {
				for _, q := range questions() {
					q.of(f)
				}
				for _, none := range []call{picked(-1, 0), picked(0, 4), {"tick", -1, 0}, {"tick", 24, 0}, {"deliver", -1, 0}, {"drop", 256, 0}, {"copy", 256, 0}, {"flip", 256, 0}, {"flip", 0, -1}} {
					none.of(f)
				}
			}
			got := c.of(f)
			if changes(c, got) {
				if want := c.of(calm); !same(got, want) {
					t.Fatalf("%s: %v: behind calls that changed nothing %v answers %s, want %s", rules, k, c, c.told(got), c.told(want))
				}
				continue
			}
			idle[c.What]++
			if !equal.Config(f.Config(), calm.Config()) || !slices.Equal(f.Trail(), calm.Trail()) || !slices.Equal(f.Here(), calm.Here()) || !slices.EqualFunc(f.Flights(), calm.Flights(), sameFlight) {
				t.Fatalf("%s: %v: %v answers %s and has changed something", rules, k, c, c.told(got))
			}
		}
	}
	wantCases(t, idle, 30, "pick", "tick", "deliver", "copy", "drop", "flip", "trigger", "post", "abort")
}

// changes tells whether the answer of a call says that something has changed.
func changes(c call, a answer) bool {
	switch c.What {
	case "pick":
		return a.Number == api.DidStep || a.Number == api.DidMark
	case "post":
		return a.Number != api.DidEmpty
	case "trigger", "abort":
		return a.Err == api.OK
	case "tick":
		return a.Number > 0
	}
	return a.Ok
}
