package cut_test

import (
	"slices"
	"strings"
	"testing"
	"unsafe"

	"eddy/api"
	"eddy/equal"
	"eddy/memory"
	"eddy/pen"
)

const rules = "P13, Rules for all calls"

// lent gives a text in bytes of its own, which can be written over afterwards.
func lent(s string) string {
	b := []byte(s)
	return unsafe.String(unsafe.SliceData(b), len(b))
}

// roomy gives the call with arguments that can be written over as a whole.
func (c call) roomy() call {
	c.Rec, c.Ahead = memory.Roomy(c.Rec, lent), memory.Roomy(c.Ahead, lent)
	c.State, c.Pend = memory.Roomy(c.State, lent), memory.Roomy(c.Pend, lent)
	return c
}

// handed is what hangs on the arguments of a call.
func (c call) handed() *memory.Memory { return memory.Of(c.Rec, c.Ahead, c.State, c.Pend) }

// writeOver writes over all that a roomy call has handed in, its texts too.
func (c call) writeOver() {
	m := c.handed()
	for _, s := range m.Texts() {
		pen.Fill([][]byte{unsafe.Slice(unsafe.StringData(s), len(s))}, '#')
	}
	m.Scribble()
}

// parting draws a script in which parts are handed out as often as may be.
func (w *writer) parting(k kind) []call {
	var all []call
	for id := 1; id <= 4; id++ {
		all = append(all, w.lead(k, id)...)
		all = append(all, w.script(k, w.Below(3))...)
	}
	return all
}

// TestWhatIsHandedInStays: no call changes anything of it, the spare room neither; and no list that is answered shares memory with another one, handed in or answered.
func TestWhatIsHandedInStays(t *testing.T) {
	for seed := range 300 {
		w := seeded(seed)
		k := w.kind()
		b, m := k.open(t), &model{kind: k}
		var all []any
		for _, c := range w.parting(k) {
			given := c.roomy()
			before := given.handed().Told()
			got, want := given.of(b), c.of(m)
			if given.handed().Told() != before {
				t.Fatalf("%s: %v: %v changes what it is handed, or the spare room behind it", rules, k, c)
			}
			if !same(got, want) {
				t.Fatalf("%s: %v: %v answers %s, want %s", rules, k, c, c.told(got), c.told(want))
			}
			all = append(all, given.Rec, given.Ahead, given.State, given.Pend, got.Part)
		}
		if !memory.Of(all...).Apart() {
			t.Fatalf("%s: %v: a list that is answered shares memory with another one", rules, k)
		}
	}
}

// writtenOver holds a book against the model; behind each call all that was handed in, its texts too, and all that was answered is written over.
func writtenOver(t *testing.T, k kind, script []call) {
	t.Helper()
	b, m := k.open(t), &model{kind: k}
	for _, c := range script {
		given := c.roomy()
		got, want := given.of(b), c.of(m)
		given.writeOver()
		if !same(got, want) {
			t.Fatalf("%s: %v: %v answers %s, want %s: what was handed in or answered before has been written over", rules, k, c, c.told(got), c.told(want))
		}
		memory.Of(got.Part).Scribble()
	}
}

// TestNothingIsKept: neither of what is copied or recorded, nor of what is refused, dropped or not recorded.
func TestNothingIsKept(t *testing.T) {
	for seed := range 500 {
		w := seeded(seed)
		k := w.kind()
		writtenOver(t, k, w.parting(k))
		writtenOver(t, k, w.script(k, 60))
	}
}

// TestAnswersCanBeAppendedTo: what is appended to one list of an answer is seen in no other one.
func TestAnswersCanBeAppendedTo(t *testing.T) {
	for seed := range 300 {
		w := seeded(seed)
		k := w.kind()
		b, m := k.open(t), &model{kind: k}
		var got, want []answer
		for _, c := range w.parting(k) {
			a := c.of(b)
			memory.Of(a.Part).Extend()
			got, want = append(got, a), append(want, c.of(m))
		}
		if !slices.EqualFunc(got, want, same) {
			t.Fatalf("%s: %v: what is appended to a list of a part is seen in another one", rules, k)
		}
	}
}

// TestOneListHandedInTwice: what is one list in the arguments is not one in the part.
func TestOneListHandedInTwice(t *testing.T) {
	val := api.Value{Kind: api.List, Items: []api.Value{{Kind: api.Int, Int: 1}}}
	r := api.Record{Key: "a", Val: api.Value{Kind: api.List, Items: []api.Value{val, val}}, Loops: []int{1}}
	all := []api.Record{r, r}
	s := api.State{Cells: []api.Cell{{Key: "a", Vals: val.Items}, {Key: "b", Vals: val.Items}}}
	for _, k := range kinds(2) {
		b := k.open(t)
		for port := range k.ports {
			b.Mark(port, 1, all, s, all)
			b.Took(k.ports-1, r)
			b.Took(k.ports-1, r)
		}
		before := memory.Of(all, s).Told()
		_, p, ok := b.Part()
		if !ok || !equal.State(p.State, s) || !equal.Records(p.Pend, all) || !memory.Of(p).Apart() {
			t.Errorf("%s: %v: lists of the part share memory, or are others", rules, k)
		}
		if memory.Of(all, s).Told() != before {
			t.Errorf("%s: %v: a list of the part shares memory with one that was handed in", rules, k)
		}
	}
}

// TestNilAndEmptyAreTheSame: as each list that is handed in.
func TestNilAndEmptyAreTheSame(t *testing.T) {
	values, loops := [][]api.Value{nil, {}, make([]api.Value, 2)[:0]}, [][]int{nil, {}, make([]int, 2)[:0]}
	records, cells := [][]api.Record{nil, {}, recs("a", "b")[:0]}, [][]api.Cell{nil, {}, state("A").Cells[:0]}
	for _, k := range kinds(2) {
		for n := range values {
			b, m := k.open(t), &model{kind: k}
			r := api.Record{Val: api.Value{Kind: api.List, Items: values[n]}, Loops: loops[n]}
			one := api.State{Cells: []api.Cell{{Vals: values[n]}, {Vals: []api.Value{r.Val}}}}
			for _, c := range []call{
				{What: "mark", Port: 0, Id: 1, Ahead: records[n], State: api.State{Cells: cells[n]}, Pend: records[n]},
				{What: "took", Port: k.ports - 1, Rec: r},
				{What: "mark", Port: k.ports - 1, Id: 1, Ahead: []api.Record{r}, State: one, Pend: []api.Record{r}},
				{What: "part"},
				{What: "mark", Port: k.ports - 1, Id: 2, Ahead: []api.Record{r}, State: one, Pend: []api.Record{r}},
				{What: "mark", Port: 0, Id: 2, Ahead: records[n], State: api.State{Cells: cells[n]}, Pend: records[n]},
				{What: "part"},
			} {
				if got, want := c.of(b), c.of(m); !same(got, want) || !memory.Of(got.Part, values[2], loops[2], records[2], cells[2]).Apart() {
					t.Errorf("%s: %v: %v, with lists that are nil, empty or roomy, answers %s, want %s in new memory", rules, k, c, c.told(got), c.told(want))
				}
			}
		}
	}
}

// TestFarBeyondTheLimits: what isn't valid is carried as it is.
func TestFarBeyondTheLimits(t *testing.T) {
	long := strings.Repeat("far beyond", 1000)
	r := api.Record{Key: long, Val: pen.Deep(1<<16 - 2), Loops: make([]int, 5000)}
	many := slices.Repeat([]api.Record{{Key: "", Val: api.Value{Kind: -5, Int: 1, Text: long, Items: make([]api.Value, 40)}}}, 300)
	s := api.State{Num: -1, Cells: []api.Cell{{Key: "b", Vals: []api.Value{r.Val}}, {Key: "a"}, {Key: "a", Vals: make([]api.Value, 300)}}}
	for _, of := range []string{"aligned 2 1", "recorded 2", "overtaking 2"} {
		k := kindOf(of)
		b, m := k.open(t), &model{kind: k}
		for _, c := range []call{
			{What: "mark", Port: 0, Id: 3, Ahead: many, State: s, Pend: many},
			{What: "took", Port: 0, Rec: r},
			{What: "took", Port: 1, Rec: r},
			{What: "mark", Port: 1, Id: 3, Ahead: []api.Record{r}, State: s, Pend: []api.Record{r, {}}},
			{What: "part"},
		} {
			if got, want := c.of(b), c.of(m); !same(got, want) || !memory.Of(got.Part).Apart() {
				t.Fatalf("%s: %v: %s of what is far beyond the limits answers something else than the model", rules, k, c.What)
			}
		}
	}
}
