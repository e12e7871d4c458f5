package post_test

import (
	"slices"
	"strings"
	"testing"
	"unsafe"

	"eddy/api"
	"eddy/equal"
	"eddy/memory"
	"eddy/pen"
)

const rules = "P14, Rules for all calls"

// lent gives a text in bytes of its own, which can be written over afterwards.
func lent(s string) string {
	b := []byte(s)
	return unsafe.String(unsafe.SliceData(b), len(b))
}

// roomy gives the call with a part that can be written over as a whole.
func (c call) roomy() call {
	c.Part = memory.Roomy(c.Part, lent)
	return c
}

// writeOver writes over all that a roomy call has handed in, its texts too.
func (c call) writeOver() {
	m := memory.Of(c.Part)
	for _, s := range m.Texts() {
		pen.Fill([][]byte{unsafe.Slice(unsafe.StringData(s), len(s))}, '#')
	}
	m.Scribble()
}

// shooting draws a script in which shots get ready as often as may be.
func (w *writer) shooting(k kind) []call {
	var all []call
	for id := k.first; id < k.first+3; id++ {
		lead := w.lead(k, id)
		for _, c := range lead {
			all = append(all, c, call{What: "open"})
			if c.What == "hand" && w.Below(4) == 0 {
				all = append(all, call{What: "hand", Id: c.Id - w.Below(2), Task: c.Task, Part: w.Part(2)})
			}
		}
	}
	return all
}

// manyTasks draws a kind that has numbers for some snapshots.
func (w *writer) manyTasks() kind {
	return kind{w.Between(1, api.MaxTasks), w.Between(1, 9000), uint32(w.Below(1 << 32))}
}

// TestWhatIsHandedInStays: no call changes anything of it, the spare room neither; and no list that is answered shares memory with another one, handed in or answered.
func TestWhatIsHandedInStays(t *testing.T) {
	for seed := range 120 {
		w := seeded(seed)
		k := w.manyTasks()
		p, m := k.open(t), &model{kind: k}
		var all []any
		for _, c := range w.shooting(k) {
			given := c.roomy()
			before := memory.Of(given.Part).Told()
			got, want := given.of(p), c.of(m)
			if memory.Of(given.Part).Told() != before {
				t.Fatalf("%s: %v: %v changes what it is handed, or the spare room behind it", rules, k, c)
			}
			if !same(got, want) {
				t.Fatalf("%s: %v: %v answers %s, want %s", rules, k, c, c.told(got), c.told(want))
			}
			all = append(all, given.Part, got.Shot, got.Tasks)
		}
		if !memory.Of(all...).Apart() {
			t.Fatalf("%s: %v: a list that is answered shares memory with another one", rules, k)
		}
	}
}

// writtenOver holds a coordinator against the model; behind each call all that was handed in, its texts too, and all that was answered is written over.
func writtenOver(t *testing.T, k kind, script []call) {
	t.Helper()
	p, m := k.open(t), &model{kind: k}
	for _, c := range script {
		given := c.roomy()
		got, want := given.of(p), c.of(m)
		given.writeOver()
		if !same(got, want) {
			t.Fatalf("%s: %v: %v answers %s, want %s: what was handed in or answered before has been written over", rules, k, c, c.told(got), c.told(want))
		}
		memory.Of(got.Shot, got.Tasks).Scribble()
	}
}

// TestNothingIsKept: neither of what waits or is gathered, nor of what is refused or given up.
func TestNothingIsKept(t *testing.T) {
	for seed := range 300 {
		w := seeded(seed)
		k := w.manyTasks()
		writtenOver(t, k, w.shooting(k))
		k = w.kind()
		writtenOver(t, k, w.script(k, 80))
	}
}

// TestAnswersCanBeAppendedTo: what is appended to one list of an answer is seen in no other one.
func TestAnswersCanBeAppendedTo(t *testing.T) {
	for seed := range 200 {
		w := seeded(seed)
		k := w.manyTasks()
		p, m := k.open(t), &model{kind: k}
		var got, want []answer
		for _, c := range w.shooting(k) {
			a := c.of(p)
			memory.Of(a.Shot, a.Tasks).Extend()
			got, want = append(got, a), append(want, c.of(m))
		}
		if !slices.EqualFunc(got, want, same) {
			t.Fatalf("%s: %v: what is appended to a list of an answer is seen in another one", rules, k)
		}
	}
}

// TestOnePartHandedInTwice: what is one list in the arguments is not one in the shot.
func TestOnePartHandedInTwice(t *testing.T) {
	val := api.Value{Kind: api.List, Items: []api.Value{{Kind: api.Int, Int: 1}}}
	r := api.Record{Key: "a", Val: api.Value{Kind: api.List, Items: []api.Value{val, val}}, Loops: []int{1}}
	all := []api.Record{r, r}
	one := api.Part{State: api.State{Cells: []api.Cell{{Key: "a", Vals: val.Items}, {Key: "b", Vals: val.Items}}}, Logs: [][]api.Record{all, all}, Pend: all}
	for tasks := 1; tasks <= api.MaxTasks; tasks++ {
		p := kind{tasks, 1, 0}.open(t)
		for id := 1; id <= 2; id++ {
			p.Trigger()
			for task := range tasks {
				p.Hand(id, task, one)
			}
			for range tasks - 1 {
				p.Pick()
			}
			before := memory.Of(one).Told()
			did, s := p.Pick()
			if did != 2 || len(s.Parts) != tasks || slices.ContainsFunc(s.Parts, func(p api.Part) bool { return !equal.Part(p, one) }) {
				t.Errorf("%s: one part of %d tasks: the shot is %s", rules, tasks, shotTold(s))
			}
			if !memory.Of(s).Apart() {
				t.Errorf("%s: one part of %d tasks: lists of the shot share memory", rules, tasks)
			}
			if memory.Of(one).Told() != before {
				t.Errorf("%s: a list of the shot shares memory with one that was handed in", rules)
			}
		}
	}
}

// TestNilAndEmptyAreTheSame: as each list that is handed in.
func TestNilAndEmptyAreTheSame(t *testing.T) {
	spare := part("A")
	values, loops := [][]api.Value{nil, {}, spare.State.Cells[0].Vals[:0]}, [][]int{nil, {}, spare.Pend[0].Loops[:0]}
	records, cells, logs := [][]api.Record{nil, {}, spare.Pend[:0]}, [][]api.Cell{nil, {}, spare.State.Cells[:0]}, [][][]api.Record{nil, {}, spare.Logs[:0]}
	for n := range values {
		r := api.Record{Val: api.Value{Kind: api.List, Items: values[n]}, Loops: loops[n]}
		k := kind{3, 1, 0}
		p, m := k.open(t), &model{kind: k}
		for _, c := range []call{
			{What: "trigger"},
			{What: "hand", Id: 1, Task: 2, Part: api.Part{State: api.State{Cells: cells[n]}, Logs: logs[n], Pend: records[n]}},
			{What: "hand", Id: 1, Task: 0, Part: api.Part{State: api.State{Cells: []api.Cell{{Vals: values[n]}}}, Logs: [][]api.Record{records[n], {r}, records[n]}, Pend: []api.Record{r}}},
			{What: "hand", Id: 1, Task: 1},
			{What: "pick"}, {What: "pick"}, {What: "pick"}, {What: "open"},
		} {
			got, want := c.of(p), c.of(m)
			if !same(got, want) || !memory.Of(got.Shot, values[2], loops[2], records[2], cells[2], logs[2]).Apart() {
				t.Errorf("%s: %v, with lists that are nil, empty or roomy, answers %s, want %s in new memory", rules, c, c.told(got), c.told(want))
			}
		}
	}
}

// TestFarBeyondTheLimits: what isn't valid is carried as it is.
func TestFarBeyondTheLimits(t *testing.T) {
	long := strings.Repeat("far beyond", 1000)
	r := api.Record{Key: long, Val: pen.Deep(1<<16 - 2), Loops: make([]int, 5000)}
	many := slices.Repeat([]api.Record{{Key: "", Val: api.Value{Kind: -5, Int: 1, Text: long, Items: make([]api.Value, 40)}}}, 300)
	s := api.State{Num: -1, Cells: []api.Cell{{Key: "b", Vals: []api.Value{r.Val}}, {Key: "a"}, {Key: "a", Vals: make([]api.Value, 300)}}}
	k := kind{3, 9999, 1}
	p, m := k.open(t), &model{kind: k}
	for _, c := range []call{
		{What: "trigger"},
		{What: "hand", Id: 9999, Task: 2, Part: api.Part{State: s, Logs: make([][]api.Record, 1000), Pend: many}},
		{What: "pick"},
		{What: "hand", Id: 9999, Task: 1, Part: api.Part{Logs: [][]api.Record{many, nil, {r}}, Pend: []api.Record{r, {}}}},
		{What: "hand", Id: 9999, Task: 0, Part: api.Part{State: api.State{Num: -1 << 63, Cells: make([]api.Cell, 5000)}, Pend: make([]api.Record, 5000)}},
		{What: "pick"}, {What: "pick"},
	} {
		if got, want := c.of(p), c.of(m); !same(got, want) || !memory.Of(got.Shot).Apart() {
			t.Fatalf("%s: %s of what is far beyond the limits answers something else than the model", rules, c.What)
		}
	}
}
