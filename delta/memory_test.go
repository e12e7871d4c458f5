package delta_test

import (
	"fmt"
	"slices"
	"strconv"
	"testing"
	"unsafe"

	"eddy/api"
	"eddy/delta"
	"eddy/pen"
)

const rules = "P11, Rules for all calls"

// lent gives a text in bytes of its own, which can be written over afterwards.
func lent(s string) string {
	b := []byte(s)
	return unsafe.String(unsafe.SliceData(b), len(b))
}

func roomyValue(v api.Value) api.Value {
	v.Text, v.Items = lent(v.Text), pen.Roomy(v.Items, text("spare"), roomyValue)
	return v
}

func roomyCells(l []api.Cell) []api.Cell {
	return pen.Roomy(l, cell("spare", num(77)), func(c api.Cell) api.Cell {
		return api.Cell{Key: lent(c.Key), Vals: pen.Roomy(c.Vals, text("spare"), roomyValue)}
	})
}

// roomy copies a call: each list of its arguments has spare room behind it that holds marks, each text is lent.
func (c call) roomy() call {
	all := call{what: c.what}
	for _, s := range c.states {
		all.states = append(all.states, api.State{Num: s.Num, Cells: roomyCells(s.Cells)})
	}
	for _, d := range c.deltas {
		all.deltas = append(all.deltas, api.Delta{Num: d.Num, Set: roomyCells(d.Set), Gone: pen.Roomy(d.Gone, "spare", lent)})
	}
	return all
}

// A memory is all that hangs on some things: their lists with their spare room, and their texts.
type memory struct {
	cells  [][]api.Cell
	values [][]api.Value
	keys   [][]string
	texts  []string
}

func (m *memory) addCells(l []api.Cell) {
	m.cells = append(m.cells, l[:cap(l)])
	for _, c := range l {
		m.texts = append(m.texts, c.Key)
		m.addValues(c.Vals)
	}
}

func (m *memory) addValues(l []api.Value) {
	m.values = append(m.values, l[:cap(l)])
	for _, v := range l {
		m.texts = append(m.texts, v.Text)
		m.addValues(v.Items)
	}
}

func (m *memory) addKeys(l []string) {
	m.keys = append(m.keys, l[:cap(l)])
	m.texts = append(m.texts, l...)
}

// handed is what hangs on the arguments of a call.
func (c call) handed() *memory {
	m := &memory{}
	for _, s := range c.states {
		m.addCells(s.Cells)
	}
	for _, d := range c.deltas {
		m.addCells(d.Set)
		m.addKeys(d.Gone)
	}
	return m
}

// memory is what hangs on an answer.
func (a answer) memory() *memory {
	m := &memory{}
	m.addCells(a.state.Cells)
	m.addCells(a.delta.Set)
	m.addKeys(a.delta.Gone)
	return m
}

// whole writes all of it, spare room too.
func (m *memory) whole() string { return fmt.Sprintf("%#v", *m) }

// scribble writes over all lists and their spare room.
func (m *memory) scribble() {
	pen.Fill(m.cells, cell("scribbled", num(4711)))
	pen.Fill(m.values, text("scribbled"))
	pen.Fill(m.keys, "scribbled")
}

// scribbleTexts writes over the bytes of the texts, which must have been lent.
func (m *memory) scribbleTexts() {
	for _, s := range m.texts {
		pen.Fill([][]byte{unsafe.Slice(unsafe.StringData(s), len(s))}, '#')
	}
}

// allApart writes over all lists, each with a mark of its own, and tells whether no two of them share memory.
func allApart(all ...*memory) bool {
	sum := &memory{}
	for _, m := range all {
		sum.cells, sum.values, sum.keys = append(sum.cells, m.cells...), append(sum.values, m.values...), append(sum.keys, m.keys...)
	}
	return pen.Apart(sum.cells, func(k int) api.Cell { return cell(strconv.Itoa(k)) }, func(a, b api.Cell) bool { return a.Key == b.Key }) &&
		pen.Apart(sum.values, func(k int) api.Value { return num(int64(k)) }, func(a, b api.Value) bool { return a.Int == b.Int }) &&
		pen.Apart(sum.keys, strconv.Itoa, func(a, b string) bool { return a == b })
}

// memoryCalls gives calls whose memory is looked at: drawn ones, right and wrong, and some of each kind that answer much.
func memoryCalls() []call {
	deep := []api.Value{list(num(1), list(text("deep"), list(num(2)))), text("text"), list()}
	keys := counted(0, 6)
	s := api.State{Num: 3, Cells: celled(keys[:4], deep...)}
	d := api.Delta{Num: 4, Set: celled(keys[2:5], num(1), list(num(2))), Gone: keys[:2]}
	e := api.Delta{Num: 5, Set: celled(append(keys[:1:1], keys[4:]...), deep...), Gone: keys[2:3]}
	all := []call{checkOf(d), diffOf(s, api.State{Num: 1, Cells: celled(keys[3:], deep[1:]...)}), applyOf(s, d), joinOf(d, e), diffOf(s, s), joinOf(d, api.Delta{}), joinOf(api.Delta{}, d), applyOf(s, api.Delta{}), applyOf(api.State{}, api.Delta{Set: d.Set})}
	for seed := range 2000 {
		if d := seeded(seed); len(d.keys) < 65 {
			all = append(all, d.call())
		}
	}
	return all
}

// TestWhatIsHandedInStays: no call changes anything of it, the spare room neither, and what is written into an answer touches nothing else.
func TestWhatIsHandedInStays(t *testing.T) {
	for _, c := range memoryCalls() {
		want := c.modelled()
		given := c.roomy()
		in := given.handed()
		before := in.whole()
		a, b := given.made(), given.made()
		if in.whole() != before {
			t.Fatalf("%s: %v changes what it is handed, or the spare room behind it", rules, c)
		}
		if !same(a, want) || !same(b, want) {
			t.Fatalf("%s: with spare room behind the lists, %v answers %v and %v, want %v", rules, c, a, b, want)
		}
		a.memory().scribble()
		if in.whole() != before || !same(b, want) || !same(given.made(), want) {
			t.Fatalf("%s: %v: what is written into an answer is seen elsewhere", rules, c)
		}
	}
}

// TestAllListsLieApart: those of the answers from those that are handed in, from one another, and from those of the same answer.
func TestAllListsLieApart(t *testing.T) {
	for _, c := range memoryCalls() {
		given := c.roomy()
		in, a, b := given.handed(), given.made(), given.made()
		if !allApart(in, a.memory(), b.memory()) {
			t.Fatalf("%s: %v: two lists of what is handed in and answered share memory", rules, c)
		}
	}
}

// TestNothingIsKept: behind a call all that was handed in is written over, its texts too; the answer stays.
func TestNothingIsKept(t *testing.T) {
	for _, c := range memoryCalls() {
		want := c.modelled()
		given := c.roomy()
		in, got := given.handed(), given.made()
		in.scribbleTexts()
		in.scribble()
		if !same(got, want) {
			t.Fatalf("%s: %v: the answer shares memory with what was handed in: %v, want %v", rules, c, got, want)
		}
	}
}

// TestAnswersCanBeAppendedTo: what is appended to one list of an answer is seen in no other.
func TestAnswersCanBeAppendedTo(t *testing.T) {
	for _, c := range memoryCalls() {
		got, want := c.made(), c.modelled()
		for _, x := range slices.Concat(got.state.Cells, got.delta.Set) {
			_ = append(x.Vals, text("behind"), text("behind"))
			for _, v := range x.Vals {
				_ = append(v.Items, text("behind"), text("behind"))
			}
		}
		behind := celled([]string{"behind", "behind"}, num(4711))
		_, _, _ = append(got.state.Cells, behind...), append(got.delta.Set, behind...), append(got.delta.Gone, "behind", "behind")
		if !same(got, want) || !same(c.made(), want) {
			t.Fatalf("%s: %v: what is appended to a list of the answer is seen in another: %v, want %v", rules, c, got, want)
		}
	}
}

// TestOneListHandedInTwice: arguments that share their lists, or are the same ones, are no trouble.
func TestOneListHandedInTwice(t *testing.T) {
	cells, keys := celled(counted(0, 5), list(num(1))), counted(0, 5)
	shared := cells[0].Vals
	for k := range cells {
		cells[k].Vals = shared
	}
	s := api.State{Num: 1, Cells: cells}
	for _, c := range []call{
		diffOf(s, s), diffOf(api.State{Cells: cells[:2]}, s), diffOf(s, api.State{Cells: cells[3:]}),
		applyOf(s, api.Delta{Set: cells}), applyOf(s, api.Delta{Set: cells[2:], Gone: keys[:2]}),
		joinOf(asDelta(s), asDelta(s)), joinOf(api.Delta{Set: cells[:2], Gone: keys[2:]}, api.Delta{Set: cells[2:], Gone: keys[:2]}),
	} {
		got := c.made()
		if !same(got, c.modelled()) || !allApart(got.memory()) {
			t.Errorf("%s: %v: lists of the answer share memory, or it is %v, want %v", rules, c, got, c.modelled())
		}
	}
	if shared[0].Items[0].Int != 1 {
		t.Errorf("%s: a list that was handed in is written over through an answer: %v", rules, shared)
	}
}

// TestNilAndEmptyAreTheSame: as each list of each argument.
func TestNilAndEmptyAreTheSame(t *testing.T) {
	spareCells, spareKeys := celled(counted(0, 3), num(7)), counted(0, 3)
	for _, cells := range [][]api.Cell{nil, {}, spareCells[:0]} {
		for _, keys := range [][]string{nil, {}, spareKeys[:0]} {
			s, d := api.State{Num: 1, Cells: cells}, api.Delta{Num: 2, Set: cells, Gone: keys}
			checkOf(d).isOK(t, rules)
			diffOf(s, s).gives(t, rules, changes("1"))
			diffOf(s, state("3; a:[1]")).gives(t, rules, changes("3; a:[1]"))
			diffOf(state("3; a:[1]"), s).gives(t, rules, changes("1; -a"))
			applyOf(s, d).leadsTo(t, rules, state("2"))
			applyOf(state("3; a:[1]"), d).leadsTo(t, rules, state("2; a:[1]"))
			applyOf(s, changes("3; a:[1]")).leadsTo(t, rules, state("3; a:[1]"))
			applyOf(s, changes("3; -a")).refuses(t, rules, api.ErrDeltaGone)
			joinOf(d, d).gives(t, rules, changes("2"))
			joinOf(d, changes("3; a:[1]; -b")).gives(t, rules, changes("3; a:[1]; -b"))
			joinOf(changes("3; a:[1]; -b"), d).gives(t, rules, changes("2; a:[1]; -b"))
		}
	}
	if !slices.Equal(spareKeys, counted(0, 3)) || !slices.Equal(keysOf(spareCells), counted(0, 3)) {
		t.Errorf("%s: a call writes into the spare room of an empty list", rules)
	}
}

// TestThingsFarBeyondTheLimits: they are refused, and nothing panics.
func TestThingsFarBeyondTheLimits(t *testing.T) {
	deep := num(1)
	for range 1 << 15 {
		deep = list(deep)
	}
	long := string(make([]byte, 1<<20))
	states := []api.State{
		{Cells: []api.Cell{cell("a", deep)}}, {Cells: []api.Cell{cell("a", text(long))}}, {Cells: []api.Cell{cell(long)}},
		{Cells: []api.Cell{cell("a", make([]api.Value, 1<<16)...)}}, {Cells: []api.Cell{cell("a", list(make([]api.Value, 1<<16)...))}}, {Cells: make([]api.Cell, 1<<16)},
	}
	deltas := []api.Delta{{Gone: []string{long}}, {Gone: make([]string, 1<<16)}}
	for _, s := range states {
		deltas = append(deltas, asDelta(s))
		for _, c := range []call{diffOf(s, s), diffOf(s, api.State{}), diffOf(api.State{}, s), applyOf(s, api.Delta{})} {
			c.refuses(t, rules, c.modelled().err)
		}
	}
	for _, d := range deltas {
		for _, c := range []call{checkOf(d), applyOf(api.State{}, d), joinOf(d, d), joinOf(d, api.Delta{}), joinOf(api.Delta{}, d)} {
			c.refuses(t, rules, c.modelled().err)
		}
		if delta.Check(d) == api.OK {
			t.Errorf("%s: a delta far beyond the limits is fit", rules)
		}
	}
}
