package stage_test

import (
	"cmp"
	"runtime"
	"slices"
	"strings"
	"testing"
	"unsafe"

	"eddy/api"
	"eddy/pen"
	"eddy/stage"
)

// lent gives a text in bytes of its own, which can be written over afterwards.
func lent(s string) string {
	b := []byte(s)
	return unsafe.String(unsafe.SliceData(b), len(b))
}

func roomyValue(v api.Value) api.Value {
	v.Text, v.Items = lent(v.Text), pen.Roomy(v.Items, text("spare"), roomyValue)
	return v
}

func roomyRecord(r api.Record) api.Record {
	r.Key, r.Val = lent(r.Key), roomyValue(r.Val)
	r.Loops = pen.Roomy(r.Loops, 77, pen.Plain)
	return r
}

func roomyState(s api.State) api.State {
	s.Cells = pen.Roomy(s.Cells, api.Cell{Key: "spare"}, func(c api.Cell) api.Cell {
		return api.Cell{Key: lent(c.Key), Vals: pen.Roomy(c.Vals, text("spare"), roomyValue)}
	})
	return s
}

// A memory is all that hangs on something: its lists with their spare room, and its texts.
type memory struct {
	cells  [][]api.Cell
	sends  [][]api.Send
	values [][]api.Value
	loops  [][]int
	texts  []string
}

func (m *memory) addState(s api.State) *memory {
	m.cells = append(m.cells, s.Cells[:cap(s.Cells)])
	for _, c := range s.Cells {
		m.texts = append(m.texts, c.Key)
		m.addValues(c.Vals)
	}
	return m
}

func (m *memory) addRecord(r api.Record) *memory {
	m.texts = append(m.texts, r.Key, r.Val.Text)
	m.loops = append(m.loops, r.Loops[:cap(r.Loops)])
	m.addValues(r.Val.Items)
	return m
}

func (m *memory) addSends(all []api.Send) *memory {
	m.sends = append(m.sends, all[:cap(all)])
	for _, x := range all {
		m.addRecord(x.Rec)
	}
	return m
}

func (m *memory) addValues(all []api.Value) {
	m.values = append(m.values, all[:cap(all)])
	for _, v := range all {
		m.texts = append(m.texts, v.Text)
		m.addValues(v.Items)
	}
}

// whole writes all of it, spare room too.
func (m *memory) whole() string { return shown(*m) }

// scribble writes over all lists and their spare room.
func (m *memory) scribble() {
	pen.Fill(m.cells, api.Cell{Key: "scribbled"})
	pen.Fill(m.sends, api.Send{Out: 4711})
	pen.Fill(m.values, text("scribbled"))
	pen.Fill(m.loops, 4711)
}

// scribbleTexts writes over the bytes of the texts, which must have been lent.
func (m *memory) scribbleTexts() {
	for _, s := range m.texts {
		pen.Fill([][]byte{unsafe.Slice(unsafe.StringData(s), len(s))}, '#')
	}
}

// A strip is where a list lies, its spare room in.
type strip struct {
	from, to uintptr
	of       string
}

func (m *memory) strips(of string) []strip {
	all := stripsOf(m.cells, of+", cells")
	all = append(all, stripsOf(m.sends, of+", sends")...)
	all = append(all, stripsOf(m.values, of+", values")...)
	return append(all, stripsOf(m.loops, of+", loops")...)
}

func stripsOf[T any](lists [][]T, of string) []strip {
	var all []strip
	for _, l := range lists {
		if len(l) > 0 {
			from := uintptr(unsafe.Pointer(&l[0]))
			all = append(all, strip{from, from + uintptr(len(l))*unsafe.Sizeof(l[0]), of})
		}
	}
	return all
}

// apart fails the test if two lists share memory.
func (g tried) apart(t *testing.T, all []strip) {
	t.Helper()
	slices.SortFunc(all, func(a, b strip) int { return cmp.Compare(a.from, b.from) })
	for k := 1; k < len(all); k++ {
		if all[k].from < all[k-1].to {
			t.Fatalf("P8, Rules for all calls: %v: a list of %s shares memory with one of %s", g, all[k].of, all[k-1].of)
		}
	}
}

// A trial is what one step is asked with.
type trial struct {
	s    api.State
	port int
	r    api.Record
}

// trials draws states, legal or not, with records, valid or not.
func (d *drawer) trials(g tried, count int) []trial {
	var all []trial
	for range count {
		x := trial{d.legal(g), d.Intn(g.picks()), d.record()}
		if d.Intn(10) == 0 {
			x.s = d.spoilt(x.s)
		}
		if d.Intn(10) == 0 {
			x.r = d.spoiltRecord()
		}
		if len(x.s.Cells) > 0 && d.Intn(2) == 0 {
			x.r.Key = x.s.Cells[d.Intn(len(x.s.Cells))].Key
		}
		all = append(all, x)
	}
	return all
}

// TestWhatIsHandedInStays: Legal and Step change nothing of it, the spare room neither, and their answers lie apart from it and from one another.
func TestWhatIsHandedInStays(t *testing.T) {
	for seed := range 3000 {
		d := seeded(seed)
		g := d.stage(t)
		for _, x := range d.trials(g, 2) {
			s, r := roomyState(x.s), roomyRecord(x.r)
			given := (&memory{}).addState(s).addRecord(r)
			before := given.whole()
			g.Legal(s)
			firstS, firstOut, e := g.Step(s, x.port, r)
			secondS, secondOut, _ := g.Step(s, x.port, r)
			if given.whole() != before {
				t.Fatalf("P8, Rules for all calls: %v: a step of %s in %s changes what is handed in", g, tell(r), tell(s))
			}
			wantS, wantOut, wantE := g.model().step(x.s, x.port, x.r)
			if e != wantE || !same(firstS, wantS) || !same(firstOut, wantOut) {
				t.Fatalf("P8.4: %v: with spare room behind the lists, Step answers %s, %s, error %d, want %s, %s, error %d", g, tell(firstS), tell(firstOut), e, tell(wantS), tell(wantOut), wantE)
			}
			first, second := (&memory{}).addState(firstS).addSends(firstOut), (&memory{}).addState(secondS).addSends(secondOut)
			g.apart(t, slices.Concat(given.strips("what is handed in"), first.strips("an answer"), second.strips("the answer behind it")))
			first.scribble()
			if given.whole() != before || !same(secondS, wantS) || !same(secondOut, wantOut) {
				t.Fatalf("P8, Rules for all calls: %v: what is written into an answer is seen elsewhere", g)
			}
			runtime.KeepAlive([]*memory{given, first, second})
		}
	}
}

// TestNothingIsKept: behind a step all that was handed in is written over, its texts too; the answer stays, and so does the stage.
func TestNothingIsKept(t *testing.T) {
	for seed := range 2000 {
		d := seeded(seed)
		g := d.stage(t)
		for _, x := range d.trials(g, 3) {
			s, r := roomyState(x.s), roomyRecord(x.r)
			given := (&memory{}).addState(s).addRecord(r)
			gotS, gotOut, e := g.Step(s, x.port, r)
			given.scribbleTexts()
			given.scribble()
			wantS, wantOut, wantE := g.model().step(x.s, x.port, x.r)
			if e != wantE || !same(gotS, wantS) || !same(gotOut, wantOut) {
				t.Fatalf("P8, Rules for all calls: %v: an answer shares memory with what was handed in: %s, %s, want %s, %s", g, tell(gotS), tell(gotOut), tell(wantS), tell(wantOut))
			}
		}
	}
}

// TestAnswersCanBeAppendedTo: what is appended to one list of an answer is seen in no other.
func TestAnswersCanBeAppendedTo(t *testing.T) {
	for seed := range 2000 {
		d := seeded(seed)
		g := d.stage(t)
		for _, x := range d.trials(g, 2) {
			s, out, _ := g.Step(x.s, x.port, x.r)
			wantS, wantOut, _ := g.model().step(x.s, x.port, x.r)
			for k := range s.Cells {
				_ = append(s.Cells[k].Vals, text("behind"), text("behind"), text("behind"))
			}
			for k := range out {
				_ = append(out[k].Rec.Loops, 4711, 4711, 4711)
				_ = append(out[k].Rec.Val.Items, text("behind"), text("behind"))
			}
			_, _ = append(s.Cells, api.Cell{Key: "behind"}, api.Cell{Key: "behind"}), append(out, api.Send{Out: 4711})
			if !same(s, wantS) || !same(out, wantOut) {
				t.Fatalf("P8, Rules for all calls: %v: what is appended to a list of an answer is seen in another: %s, %s", g, tell(s), tell(out))
			}
		}
	}
}

// TestATaskIsNotKept: behind New the task's lists and texts are written over; it itself is not changed.
func TestATaskIsNotKept(t *testing.T) {
	for _, r := range rows() {
		texts := []string{`if "text" < key then [val, "text"] else acc`, `[1, "other", hops, key]`}[:r.exprs]
		k := task(r.kind, r.numHigh, texts...)
		given := k
		given.Name = lent(k.Name)
		given.Exprs = pen.Roomy(texts, "spare", lent)
		g, e := stage.New(given, r.inHigh, r.outHigh)
		if e != api.OK || !same(given, k) || !slices.Equal(given.Exprs[:cap(given.Exprs)][r.exprs:], []string{"spare", "spare", "spare"}) {
			t.Errorf("P8, Rules for all calls: New changes the task %+v, or answers error %d", given, e)
		}
		for _, s := range append(given.Exprs, given.Name) {
			pen.Fill([][]byte{unsafe.Slice(unsafe.StringData(s), len(s))}, '#')
		}
		pen.Fill([][]string{given.Exprs[:cap(given.Exprs)]}, "scribbled")
		kept := tried{g, k, r.inHigh, r.outHigh}
		for _, in := range someRecords() {
			for port := range kept.picks() {
				kept.asModel(t, api.State{}, port, in)
			}
		}
	}
}

// TestAStageNeverChanges: what a step answers is the same behind any others, with an error or without, of this stage or of another one of the same task.
func TestAStageNeverChanges(t *testing.T) {
	for seed := range 300 {
		d := seeded(seed)
		g := d.stage(t)
		twin := made(t, g.task, g.ins, g.outs)
		steps := d.trials(g, 12)
		for range 3 {
			d.Shuffle(len(steps), func(a, b int) { steps[a], steps[b] = steps[b], steps[a] })
			for _, x := range steps {
				s, out, _ := g.asModel(t, x.s, x.port, x.r)
				(&memory{}).addState(s).addSends(out).scribble()
				g.Step(x.s, -1, x.r)
				if got, want := g.Legal(x.s), g.model().legal(x.s); got != want {
					t.Fatalf("P8.3: %v: Legal(%s) answers error %d, want %d", g, tell(x.s), got, want)
				}
			}
		}
		for _, x := range steps {
			twin.asModel(t, x.s, x.port, x.r)
		}
	}
}

// TestEmptyListsAreAsGoodAsNone: handed in as nil or as empty lists, with and without spare room.
func TestEmptyListsAreAsGoodAsNone(t *testing.T) {
	spareCells, spareVals, spareLoops := cells(2, num(7)), []api.Value{num(7), num(7)}, []int{7, 7}
	bare := api.Record{Key: "a", Val: list()}
	empty := api.Record{Key: "a", Val: list(spareVals[:0]...), Loops: spareLoops[:0]}
	for _, g := range everyKind(t) {
		for port := range g.picks() {
			wantS, wantOut, _ := g.asModel(t, api.State{}, port, bare)
			for _, s := range []api.State{{}, {Cells: []api.Cell{}}, {Cells: spareCells[:0]}} {
				g.wants(t, "P8, Rules for all calls", s, port, empty, wantS, wantOut)
			}
		}
	}
	g := of(t, api.Dedup, 0)
	g.wants(t, "P8.14", api.State{Cells: []api.Cell{{Key: "a", Vals: spareVals[:0]}}}, 0, bare, state("0; a:[]"), nil)
	if spareLoops[0] != 7 || spareVals[0].Int != 7 || !strings.HasPrefix(spareCells[0].Key, "k") {
		t.Error("P8, Rules for all calls: a step writes into the spare room of an empty list")
	}
}
