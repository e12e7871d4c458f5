package heal_test

import (
	"fmt"
	"slices"
	"sync"
	"testing"
	"unsafe"

	"eddy/api"
	"eddy/equal"
	"eddy/heal"
	"eddy/memory"
	"eddy/pen"
)

const rules = "P17, Rules for all calls"

// lent gives a text in bytes of its own, which can be written over afterwards.
func lent(s string) string {
	b := []byte(s)
	return unsafe.String(unsafe.SliceData(b), len(b))
}

// numbers copies a list of numbers, with spare room behind it that holds marks.
func numbers(l []int) []int { return pen.Roomy(l, 77, pen.Plain[int]) }

// roomyShape copies a shape: each list has spare room behind it that holds marks.
func roomyShape(sh api.Shape) api.Shape {
	return api.Shape{Ins: pen.Roomy(sh.Ins, []int{77}, numbers), Outs: pen.Roomy(sh.Outs, []int{77}, numbers), Back: pen.Roomy(sh.Back, true, pen.Plain[bool]),
		Order: numbers(sh.Order), Sources: numbers(sh.Sources), Sinks: numbers(sh.Sinks), Mate: numbers(sh.Mate), Depth: numbers(sh.Depth)}
}

// numberLists gives all lists of numbers of a shape, with their spare room.
func numberLists(sh api.Shape) [][]int {
	var all [][]int
	for _, l := range slices.Concat(sh.Ins, sh.Outs, [][]int{sh.Order, sh.Sources, sh.Sinks, sh.Mate, sh.Depth}) {
		all = append(all, l[:cap(l)])
	}
	return all
}

func shapeTold(sh api.Shape) string {
	return fmt.Sprint(numberLists(sh), sh.Ins[:cap(sh.Ins)], sh.Outs[:cap(sh.Outs)], sh.Back[:cap(sh.Back)])
}

// A hand is all that is handed in to a call.
type hand struct {
	ground
	shot api.Shot
	outs [][]api.Record
}

// roomy copies what is handed in: each list has spare room behind it that holds marks, each text is lent.
func (h hand) roomy() hand {
	return hand{ground{memory.Roomy(h.plan, lent), roomyShape(h.sh), memory.Roomy(h.tapes, lent)}, memory.Roomy(h.shot, lent), memory.Roomy(h.outs, lent)}
}

func (h hand) lists() []any { return []any{h.plan, h.tapes, h.shot, h.outs} }

func (h hand) told() string { return memory.Of(h.lists()...).Told() + shapeTold(h.sh) }

// writeOver writes over all that hangs on a roomy hand, its texts too.
func (h hand) writeOver() {
	m := memory.Of(h.lists()...)
	for _, s := range m.Texts() {
		pen.Fill([][]byte{unsafe.Slice(unsafe.StringData(s), len(s))}, '#')
	}
	m.Scribble()
	pen.Fill(numberLists(h.sh), 4711)
	pen.Fill([][][]int{h.sh.Ins[:cap(h.sh.Ins)], h.sh.Outs[:cap(h.sh.Outs)]}, []int{4711})
}

// A reply is what the calls answer of a hand and a store.
type reply struct {
	sum    uint32
	fits   api.Errno
	config api.Config
	e      api.Errno
	found  api.Found
	f      api.Errno
}

func (h hand) asks(s store) reply {
	var r reply
	r.sum = heal.Sum(h.plan, h.tapes)
	r.fits = heal.Fits(h.plan, h.sh, h.tapes, h.shot)
	r.config, r.e = heal.Config(h.plan, h.sh, h.shot, h.outs)
	r.found, r.f = heal.Newest(s.Vault, h.plan, h.sh, h.tapes, h.outs)
	return r
}

func sameReply(a, b reply) bool {
	return a.sum == b.sum && a.fits == b.fits && equal.Config(a.config, b.config) && a.e == b.e && sameFound(a.found, b.found) && a.f == b.f
}

// lists gives what of a reply has lists, but for those that were passed over.
func (r reply) lists() []any { return []any{r.config, r.found.Shot, r.found.Config} }

// drawnHand draws a hand, right or with something wrong in its shot, and a store: the right shot is in it, and others.
func (w *writer) drawnHand() (hand, store) {
	s := begun(w.ground())
	right := w.shot(s.ground, 1)
	for id := 1; id <= w.Between(1, 4); id++ {
		one := w.shot(s.ground, id)
		if w.Below(3) == 0 {
			one.Sum++
		}
		s.Save(one)
		if one.Sum == right.Sum {
			right = one
		}
	}
	h := hand{s.ground, turned(right, func(*api.Shot) {}), w.outs(s.ground, right)}
	if w.Below(4) == 0 {
		w.spoil(s.ground, &h.shot)
	}
	return h, s
}

// TestWhatIsHandedInStays: no call changes anything of it, the spare room neither; and no list that is answered shares memory with another one, handed in or answered.
func TestWhatIsHandedInStays(t *testing.T) {
	for seed := range 500 {
		h, s := seeded(seed).drawnHand()
		given := h.roomy()
		before := given.told()
		a, b := given.asks(s), given.asks(s)
		if want := h.asks(s); !sameReply(a, want) || !sameReply(b, want) {
			t.Fatalf("%s: seed %d: %v: with spare room behind its lists the answer is another one", rules, seed, h.ground)
		}
		if given.told() != before {
			t.Fatalf("%s: seed %d: %v: what is handed in is changed, or the spare room behind it", rules, seed, h.ground)
		}
		if !memory.Of(slices.Concat(given.lists(), a.lists(), b.lists())...).Apart() {
			t.Fatalf("%s: seed %d: %v: a list that is answered shares memory with another one", rules, seed, h.ground)
		}
	}
}

// TestNothingIsShared: all that is handed in, its texts too, is written over behind the call, and the answer stays; so does a second one, when the first is written over.
func TestNothingIsShared(t *testing.T) {
	met := map[string]int{}
	for seed := range 500 {
		h, s := seeded(seed).drawnHand()
		want := h.asks(s)
		met[fmt.Sprint("config: ", want.e == api.OK, ", found: ", want.found.Id > 0)]++
		met[fmt.Sprint("passed over: ", len(want.found.Lost) > 0)]++
		given := h.roomy()
		got, again := given.asks(s), given.asks(s)
		given.writeOver()
		if !sameReply(got, want) {
			t.Fatalf("%s: seed %d: %v: what is answered changes with what was handed in", rules, seed, h.ground)
		}
		memory.Of(got.lists()...).Scribble()
		for k, l := range got.found.Lost {
			*l = api.Lost{Id: 4711, Name: "scribbled", Err: api.OK}
			got.found.Lost[k] = nil
		}
		if !sameReply(again, want) || !sameReply(h.asks(s), want) {
			t.Fatalf("%s: seed %d: %v: an answer changes with an earlier one", rules, seed, h.ground)
		}
	}
	wantCases(t, met, 40, "config: true, found: true", "config: false, found: true", "config: true, found: false", "config: false, found: false", "passed over: true", "passed over: false")
}

// TestAnswersCanBeAppendedTo: what is appended to one list of an answer is seen in no other one.
func TestAnswersCanBeAppendedTo(t *testing.T) {
	for seed := range 300 {
		h, s := seeded(seed).drawnHand()
		got, want := h.asks(s), h.asks(s)
		memory.Of(got.lists()...).Extend()
		_ = append(got.found.Lost, &api.Lost{Id: 99}, &api.Lost{Id: 99})
		if !sameReply(got, want) || !sameReply(h.asks(s), want) {
			t.Fatalf("%s: seed %d: %v: what is appended to a list of an answer is seen in another one", rules, seed, h.ground)
		}
	}
}

// TestOneListHandedInTwice: what is one list in the arguments is not one in the answer.
func TestOneListHandedInTwice(t *testing.T) {
	g := reads("a=1 | b=2", "s source 0", "r source 0", "f fold none ; val", "g fold none ; val", "k sink", "l sink", "s.0 f.0", "r.0 g.0", "f.0 k.0", "g.0 l.0")
	val := api.Value{Kind: api.List, Items: []api.Value{{Kind: api.Int, Int: 1}}}
	twice := api.Value{Kind: api.List, Items: []api.Value{val, val}}
	records := []api.Record{{Key: "a", Val: twice, Loops: []int{1}}, {Key: "b", Val: twice, Loops: []int{1}}}
	records[1].Loops = records[0].Loops
	cells := api.State{Cells: []api.Cell{{Key: "a", Vals: twice.Items[:1]}, {Key: "b", Vals: twice.Items[:1]}}}
	logs := [][]api.Record{records}
	keeps, ends := api.Part{State: cells, Logs: logs}, api.Part{State: api.State{Num: 4}, Logs: logs, Pend: records}
	h := hand{g, g.shot(api.Part{}, api.Part{}, keeps, keeps, ends, ends), [][]api.Record{records, records}}
	before := h.told()
	s := begun(g).saved(t, 1, h.shot)
	got := h.asks(s)
	if got.fits != api.OK || got.e != api.OK || got.found.Id != 1 {
		t.Fatalf("the shot doesn't fit: %s, %s", errorTold(got.fits), errorTold(got.e))
	}
	wantLists := len(got.config.Lanes) + len(got.config.Outs)
	if !memory.Of(got.lists()...).Apart() || wantLists != 6 || h.told() != before {
		t.Errorf("%s: lists of an answer share memory with one another, or with what was handed in", rules)
	}
}

func empty[T any](list *[]T, how int) {
	if len(*list) == 0 {
		*list = [][]T{nil, {}, make([]T, 3)[:0]}[how]
	}
}

// emptied gives the hand with lists that are nil, empty, or empty with spare room, where they hold nothing.
func (h hand) emptied(how int) hand {
	h = h.roomy()
	for n := range h.plan.Tasks {
		empty(&h.plan.Tasks[n].Exprs, how)
	}
	for _, all := range [][][]int{h.sh.Ins, h.sh.Outs} {
		for n := range all {
			empty(&all[n], how)
		}
	}
	records := func(l *[]api.Record) {
		for n := range *l {
			empty(&(*l)[n].Loops, how)
			empty(&(*l)[n].Val.Items, how)
		}
		empty(l, how)
	}
	for _, all := range [][][]api.Record{h.tapes, h.outs} {
		for n := range all {
			records(&all[n])
		}
	}
	empty(&h.outs, how)
	for n := range h.shot.Parts {
		p := &h.shot.Parts[n]
		empty(&p.State.Cells, how)
		for m := range p.State.Cells {
			empty(&p.State.Cells[m].Vals, how)
		}
		for m := range p.Logs {
			records(&p.Logs[m])
		}
		empty(&p.Logs, how)
		records(&p.Pend)
	}
	empty(&h.shot.Parts, how)
	return h
}

// TestNilAndEmptyAreTheSame: as each list that is handed in.
func TestNilAndEmptyAreTheSame(t *testing.T) {
	for seed := range 300 {
		h, s := seeded(seed).drawnHand()
		want := h.asks(s)
		for how := range 3 {
			if got := h.emptied(how).asks(s); !sameReply(got, want) {
				t.Fatalf("%s: seed %d: %v: with lists that are nil, empty or roomy the answer is another one", rules, seed, h.ground)
			}
		}
	}
	g := line()
	right := g.shot(part("0"), part("0", ""))
	for how := range 3 {
		var none [][]api.Record
		empty(&none, how)
		g.wantConfig(t, rules, right, none, "0 / 0 # #")
		g.wantConfig(t, rules, g.shot(part("0"), part("1", "")), none, "outs")
		var parts []api.Part
		empty(&parts, how)
		g.wantFits(t, rules, g.shot(parts...), "parts")
		g.wantFits(t, rules, turned(right, func(s *api.Shot) { s.Parts[1].Logs = nil; empty(&s.Parts[1].Logs, how) }), "logs")
		begun(g).wants(t, rules, none, "0:")
	}
}

// TestCallsAtTheSameTime: calls that are handed the same lists, each in a goroutine of its own.
func TestCallsAtTheSameTime(t *testing.T) {
	h, s := seeded(7).drawnHand()
	want := h.asks(s)
	var all sync.WaitGroup
	for range 16 {
		own := s.again()
		all.Go(func() {
			for range 20 {
				if !sameReply(h.asks(own), want) {
					t.Errorf("%s: a call beside others answers another thing", rules)
				}
			}
		})
	}
	all.Wait()
}
