package witness_test

import (
	"fmt"
	"slices"
	"sync"
	"testing"
	"unsafe"

	"eddy/api"
	"eddy/memory"
	"eddy/pen"
)

const rules = "P18, The face"

// lent gives a text in bytes of its own, which can be written over afterwards.
func lent(s string) string {
	b := []byte(s)
	return unsafe.String(unsafe.SliceData(b), len(b))
}

// roomy copies what is handed in: each list has spare room behind it that holds marks, each text is lent.
func (p proof) roomy() proof {
	p.start, p.shot, p.end = memory.Roomy(p.start, lent), memory.Roomy(p.shot, lent), memory.Roomy(p.end, lent)
	p.trail = memory.Roomy(p.trail, lent)
	return p
}

func (p proof) lists() []any { return []any{p.start, p.shot, p.end, p.trail} }

// writeOver writes over all that hangs on a roomy proof, its texts too.
func (p proof) writeOver() {
	m := memory.Of(p.lists()...)
	for _, s := range m.Texts() {
		pen.Fill([][]byte{unsafe.Slice(unsafe.StringData(s), len(s))}, '#')
	}
	m.Scribble()
}

// A reply is what the calls answer.
type reply struct {
	before, after, line []api.Event
	places              []int
	errors              [4]api.Errno
}

func (p proof) asks() reply {
	var r reply
	r.before, r.after, r.errors[0] = program().split(p.trail, p.id, p.count)
	r.line, r.errors[1] = program().line(p.trail, p.count)
	r.places, r.errors[2] = program().path(p.trail, p.id, p.count)
	r.errors[3] = p.by(program())
	return r
}

func (r reply) lists() []any { return []any{r.before, r.after, r.line, r.places} }

func sameReply(a, b reply) bool {
	return slices.Equal(a.before, b.before) && slices.Equal(a.after, b.after) && slices.Equal(a.line, b.line) && slices.Equal(a.places, b.places) && a.errors == b.errors
}

// drawnProof draws what is handed in: of a run, right or spoilt, or a trail of several lives.
func (w *writer) drawnProof() proof {
	g := w.ground()
	r := w.begun(g, w.Between(1, 3))
	w.plays(r, w.Between(30, 160)*g.tasks())
	p := proof{ground: g, start: r.start, shot: r.start, end: r.Config(), trail: r.Trail(), id: 1, count: g.tasks()}
	if n := len(r.shots); n > 0 {
		p = r.proofOf(r.shots[w.Below(n)])
	}
	switch w.Below(4) {
	case 0:
		p = w.spoiltProof(p)
	case 1:
		p.trail, p.id = w.trail(g.tasks(), 20), w.Between(1, ids)
	}
	return p
}

// TestWhatIsHandedInStays: no call changes anything of it, the spare room neither; and no list that is answered shares memory with another one, handed in or answered.
func TestWhatIsHandedInStays(t *testing.T) {
	for seed := range 500 {
		p := seeded(seed).drawnProof()
		given := p.roomy()
		before := memory.Of(given.lists()...).Told()
		a, b := given.asks(), given.asks()
		if want := p.asks(); !sameReply(a, want) || !sameReply(b, want) {
			t.Fatalf("%s: seed %d: %v: with spare room behind its lists the answer is another one", rules, seed, p)
		}
		if memory.Of(given.lists()...).Told() != before {
			t.Fatalf("%s: seed %d: %v: what is handed in is changed, or the spare room behind it", rules, seed, p)
		}
		if !memory.Of(slices.Concat(given.lists(), a.lists(), b.lists())...).Apart() {
			t.Fatalf("%s: seed %d: %v: a list that is answered shares memory with another one", rules, seed, p)
		}
	}
}

// TestNothingIsShared: all that is handed in, its texts too, is written over behind the call, and the answer stays; so does a second one, when the first is written over.
func TestNothingIsShared(t *testing.T) {
	met := map[string]int{}
	for seed := range 500 {
		p := seeded(seed).drawnProof()
		want := p.asks()
		for k, l := range []int{len(want.before), len(want.after), len(want.line), len(want.places)} {
			met[fmt.Sprint("list ", k, ": ", l > 1)]++
		}
		given := p.roomy()
		got, again := given.asks(), given.asks()
		given.writeOver()
		if !sameReply(got, want) {
			t.Fatalf("%s: seed %d: %v: what is answered changes with what was handed in", rules, seed, p)
		}
		memory.Of(got.lists()...).Scribble()
		if !sameReply(again, want) || !sameReply(p.asks(), want) {
			t.Fatalf("%s: seed %d: %v: an answer changes with an earlier one", rules, seed, p)
		}
	}
	for k := range 4 {
		wantCases(t, met, 40, fmt.Sprint("list ", k, ": true"), fmt.Sprint("list ", k, ": false"))
	}
}

// TestAnswersCanBeAppendedTo: what is appended to one list of an answer is seen in no other one.
func TestAnswersCanBeAppendedTo(t *testing.T) {
	for seed := range 300 {
		p := seeded(seed).drawnProof()
		got, want := p.asks(), p.asks()
		memory.Of(got.lists()...).Extend()
		if !sameReply(got, want) || !sameReply(p.asks(), want) {
			t.Fatalf("%s: seed %d: %v: what is appended to a list of an answer is seen in another one", rules, seed, p)
		}
	}
}

// TestOneListHandedInTwice: configurations that are one and the same.
func TestOneListHandedInTwice(t *testing.T) {
	c := memory.Roomy(config("1 / 1 # b=2 # a=1"), lent)
	c.Outs[0] = c.Lanes[0]
	before := memory.Of(c).Told()
	p := proof{line(), c, c, c, pen.ReadTrail("copy 0 1, copy 1 1, ready 1"), 1, 2}
	p.wants(t, rules, "ok")
	p.trail = pen.ReadTrail("copy 0 1, copy 1 1, step 1.0, ready 1")
	p.wants(t, rules, "no end")
	p.trail = pen.ReadTrail("step 1.0, copy 0 1, copy 1 1, ready 1")
	p.wants(t, rules, "no cut")
	if memory.Of(c).Told() != before {
		t.Errorf("%s: a configuration that is handed in three times is changed", rules)
	}
}

// empty gives an empty list: nil, one without room, or one with spare room that holds marks.
func empty[T any](how int, mark T) []T {
	return [][]T{nil, {}, slices.Repeat([]T{mark}, 3)[:0]}[how]
}

// emptied gives a configuration whose empty lists are all of one kind.
func emptied(c api.Config, how int) api.Config {
	c = memory.Roomy(c, lent)
	records := func(l []api.Record) []api.Record {
		if len(l) == 0 {
			return empty(how, api.Record{Key: "spare"})
		}
		for k := range l {
			if len(l[k].Loops) == 0 {
				l[k].Loops = empty(how, 77)
			}
			if len(l[k].Val.Items) == 0 {
				l[k].Val.Items = empty(how, api.Value{Kind: api.Int, Int: 77})
			}
		}
		return l
	}
	for k := range c.Lanes {
		c.Lanes[k] = records(c.Lanes[k])
	}
	for k := range c.Outs {
		c.Outs[k] = records(c.Outs[k])
	}
	for k := range c.States {
		if len(c.States[k].Cells) == 0 {
			c.States[k].Cells = empty(how, api.Cell{Key: "spare"})
		}
	}
	return c
}

// TestNilAndEmptyAreTheSame: trails and configurations, and the lists within these.
func TestNilAndEmptyAreTheSame(t *testing.T) {
	for how := range 3 {
		l := empty(how, api.Trail{Kind: 99})
		p := proof{ground: line(), trail: l, id: 1, count: 1}
		if got := p.asks(); !sameReply(got, reply{errors: [4]api.Errno{api.ErrWitShot, api.OK, api.ErrWitShot, api.ErrWitShot}}) {
			t.Errorf("%s: of an empty trail, way %d, %v is answered", rules, how, got)
		}
	}
	for seed := range 200 {
		p := seeded(seed).drawnProof()
		want := p.asks()
		for how := range 27 {
			q := p
			q.start, q.shot, q.end = emptied(p.start, how%3), emptied(p.shot, how/3%3), emptied(p.end, how/9)
			if got := q.asks(); !sameReply(got, want) {
				t.Fatalf("%s: seed %d: %v: with empty lists of other kinds %v is answered, want %v", rules, seed, p, got.errors, want.errors)
			}
		}
	}
}

// TestErrorsHaveNothingBeside: beside an error no list is answered.
func TestErrorsHaveNothingBeside(t *testing.T) {
	met := map[api.Errno]int{}
	for seed := range 500 {
		p := seeded(seed).drawnProof()
		r := p.asks()
		for k, lists := range [][]int{{len(r.before), len(r.after)}, {len(r.line)}, {len(r.places)}} {
			if met[r.errors[k]]++; r.errors[k] != api.OK && slices.Max(lists) > 0 {
				t.Fatalf("%s: seed %d: %v: beside the error %s there is something", rules, seed, p, errorTold(r.errors[k]))
			}
		}
	}
	if met[api.ErrWitShot] < 40 || met[api.ErrWitTrail] < 40 || met[api.OK] < 40 {
		t.Errorf("the errors are %v", met)
	}
}

// TestCallsAtTheSameTime: calls that are handed the same lists, each in a goroutine of its own.
func TestCallsAtTheSameTime(t *testing.T) {
	for seed := range 4 {
		w := seeded(seed)
		p := w.drawnProof()
		want := p.asks()
		var all sync.WaitGroup
		for range 8 {
			all.Go(func() {
				for range 20 {
					if !sameReply(p.asks(), want) {
						t.Errorf("%s: a call beside others answers another thing", rules)
					}
				}
			})
		}
		all.Wait()
	}
}
