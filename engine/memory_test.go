package engine_test

import (
	"fmt"
	"slices"
	"sync"
	"testing"
	"unsafe"

	"eddy/api"
	"eddy/engine"
	"eddy/equal"
	"eddy/memory"
	"eddy/pen"
)

const rules = "What holds everywhere, 3"

// lent gives a text in bytes of its own, which can be written over afterwards.
func lent(s string) string {
	b := []byte(s)
	return unsafe.String(unsafe.SliceData(b), len(b))
}

// roomy gives a ground of which everything can be written over.
func (g ground) roomy() ground {
	g.text, g.tapes, g.files = lent(g.text), memory.Roomy(g.tapes, lent), memory.Roomy(g.files, lent)
	return g
}

func (g ground) handed() *memory.Memory { return memory.Of(g.text, g.tapes, g.files) }

// writeOver writes over all that hangs on a roomy ground, its texts too.
func (g ground) writeOver() {
	m := g.handed()
	for _, s := range m.Texts() {
		pen.Fill([][]byte{unsafe.Slice(unsafe.StringData(s), len(s))}, '#')
	}
	m.Scribble()
}

// answers gives all that a machine answers to questions and that has lists.
func answers(m machine) []any {
	all := []any{m.Config(), m.Committed(), m.Trail(), m.Files()}
	last := m.Status().Last
	for _, id := range []int{last - 1, last, last + 1} {
		s, _ := m.Shot(id)
		all = append(all, s)
	}
	return all
}

// wornGround draws a ground, in most cases over a disk that holds something.
func (w *writer) wornGround(t *testing.T) ground {
	g := w.ground()
	if w.Below(4) > 0 {
		g = g.over(w.disk(t, g)...)
	}
	return g
}

// TestWhatIsHandedInStays: no call changes anything of it, the spare room neither; and no list that is answered shares memory with another one, handed in or answered.
func TestWhatIsHandedInStays(t *testing.T) {
	for seed := range 80 {
		w := seeded(seed)
		g := w.wornGround(t)
		given := g.roomy()
		before := given.handed().Told()
		e := given.open(t)
		all := []any{given.tapes, given.files}
		for n, op := range w.script(t, g, 120) {
			op.Keep = memory.Roomy(op.Keep, lent)
			told := memory.Of(op).Told()
			e.Do(op)
			if memory.Of(op).Told() != told || n%20 == 0 && given.handed().Told() != before {
				t.Fatalf("%s: %v: %s, or a step ahead of it, changes what was handed in, or the spare room behind it", rules, g, opTold(op))
			}
			if all = append(all, op.Keep); n%30 == 0 {
				all = append(all, answers(e)...)
			}
		}
		if given.handed().Told() != before {
			t.Fatalf("%s: %v: what was handed in has changed", rules, g)
		}
		if !memory.Of(all...).Apart() {
			t.Fatalf("%s: %v: a list that is answered shares memory with another one", rules, g)
		}
	}
}

// TestNothingIsKept: all that is handed in, its texts too, is written over behind the call, and so is all that is answered.
func TestNothingIsKept(t *testing.T) {
	for seed := range 80 {
		w := seeded(seed)
		g := w.wornGround(t)
		given := g.roomy()
		e, m := given.open(t), g.model(t)
		given.writeOver()
		for n, op := range w.script(t, g, 150) {
			lend := op
			lend.Keep = memory.Roomy(op.Keep, lent)
			got, want := e.Do(lend), m.Do(op)
			memory.Of(lend.Keep).Scribble()
			if got != want {
				t.Fatalf("%s: %v: %s answers %d, want %d: what was handed in or answered before has been written over", rules, g, opTold(op), got, want)
			}
			if n%10 != 0 && op.Kind == api.OpPick {
				continue
			}
			if why := difference(e, m); why != "" {
				t.Fatalf("%s: %v: behind %s: what was handed in or answered before has been written over: %s", rules, g, opTold(op), why)
			}
			memory.Of(answers(e)...).Scribble()
		}
	}
}

// TestAnswersCanBeAppendedTo: what is appended to one list of an answer is seen in no other one.
func TestAnswersCanBeAppendedTo(t *testing.T) {
	for seed := range 60 {
		w := seeded(seed)
		g := w.wornGround(t)
		e, m := g.open(t), g.model(t)
		var got, want []any
		for n, op := range w.script(t, g, 100) {
			e.Do(op)
			if m.Do(op); n%5 == 0 {
				a := answers(e)
				memory.Of(a...).Extend()
				got, want = append(got, a...), append(want, answers(m)...)
			}
		}
		if fmt.Sprint(got) != fmt.Sprint(want) {
			t.Fatalf("%s: %v: what is appended to a list of an answer is seen in another one", rules, g)
		}
	}
}

// TestNoAnswerChangesLater: an answer stands as it was, whatever the engine does behind it.
func TestNoAnswerChangesLater(t *testing.T) {
	for seed := range 40 {
		w := seeded(seed)
		g := w.wornGround(t)
		e := g.open(t)
		var kept []any
		var told []string
		for n, op := range w.script(t, g, 150) {
			if e.Do(op); n%15 == 0 {
				a := answers(e)
				kept, told = append(kept, a), append(told, fmt.Sprint(a)+memory.Of(a...).Told())
			}
		}
		for k, a := range kept {
			if fmt.Sprint(a)+memory.Of(a.([]any)...).Told() != told[k] {
				t.Fatalf("%s: %v: an answer has changed behind the call", rules, g)
			}
		}
	}
}

// TestNilAndEmptyAreTheSame: as each list that is handed in.
func TestNilAndEmptyAreTheSame(t *testing.T) {
	empties := func(how int) ([]string, []api.File, []byte, []int) {
		switch how {
		case 0:
			return nil, nil, nil, nil
		case 1:
			return []string{}, []api.File{}, []byte{}, []int{}
		}
		return make([]string, 3)[:0], make([]api.File, 3)[:0], make([]byte, 3)[:0], []int{9999, 9999}[:0]
	}
	for how := range 3 {
		tapes, files, data, keep := empties(how)
		refused(t, "What holds everywhere, 2", ground{text: line().text, tapes: tapes, mode: 1, files: files}, "error 90")
		if got, err := engine.Play(line().text, "", 1, tapes...); got != "" || err != api.ErrFlowTape {
			t.Errorf("What holds everywhere, 2: Play without tapes answers %q, %v", got, err)
		}
		g := line()
		g.files = files
		e := g.open(t)
		does(e, "trigger; pick 0 0; pick 1 0; post; fail 1 after 5; post; crash")
		if did := e.Do(api.Op{Kind: api.OpRecover, Keep: keep}); did != api.DidUp || e.Status().Last != 0 || len(e.Files()) != 0 {
			t.Errorf("What holds everywhere, 2: a recover that keeps nothing answers %d, the status is %s", did, statusTold(e.Status()))
		}
		e = line().over(api.File{Name: "out-01", Data: data}, api.File{Name: "man-0007", Data: data}, api.File{Name: "x", Data: data}).open(t)
		if got := asked(e, "status") + " " + asked(e, "files"); got != "up next 8 out-01, x" {
			t.Errorf("What holds everywhere, 2: over files without bytes there is %s", got)
		}
	}
}

// TestErrorsHaveNothingBesideThem: Shot's and Play's.
func TestErrorsHaveNothingBesideThem(t *testing.T) {
	e := line().open(t)
	does(e, through+"; "+shoot)
	for _, id := range odd() {
		s, err := e.Shot(id)
		if (err == nil) != (id == 1) || err != nil && !equal.Shot(s, api.Shot{}) {
			t.Errorf("P19.11: Shot(%d) answers %s, %v", id, shotTold(s), err)
		}
	}
	does(e, "crash")
	for _, id := range odd() {
		if s, err := e.Shot(id); err != api.ErrDiskDown || !equal.Shot(s, api.Shot{}) {
			t.Errorf("P19.11: while the machine is down Shot(%d) answers %s, %v", id, shotTold(s), err)
		}
	}
}

// TestEnginesBesideOneAnother: what one does the others don't see, though they were made of the same lists, or of one another's files.
func TestEnginesBesideOneAnother(t *testing.T) {
	for seed := range 30 {
		w := seeded(seed)
		g := w.wornGround(t)
		files := g.open(t).Files()
		var all []*engine.Engine
		var models []*model
		var writers []*writer
		for n := range 6 {
			one := g.in(n%3 + 1)
			if n > 2 {
				one = one.over(files...)
			}
			all, models, writers = append(all, one.open(t)), append(models, one.model(t)), append(writers, seeded(seed*10+n).at(one))
		}
		for range 400 {
			n := w.Below(len(all))
			op := writers[n].Step(models[n].Status())
			if got, want := all[n].Do(op), models[n].Do(op); got != want {
				t.Fatalf("What holds everywhere, 6: %v: an engine among others: %s answers %d, want %d", g, opTold(op), got, want)
			}
		}
		for n := range all {
			if why := difference(all[n], models[n]); why != "" {
				t.Fatalf("What holds everywhere, 6: %v: an engine among others: %s", g, why)
			}
		}
	}
}

// TestEnginesAtTheSameTime: engines of the same lists run at the same time.
func TestEnginesAtTheSameTime(t *testing.T) {
	w := seeded(5)
	g := w.wornGround(t)
	script := w.script(t, g, 250)
	want := all(g.model(t).after(script))
	var wait sync.WaitGroup
	for range 8 {
		wait.Go(func() {
			e, err := engine.New(g.text, g.tapes, g.mode, g.files)
			if err != nil {
				t.Errorf("P19.1: %v: %v", g, err)
				return
			}
			for _, op := range script {
				e.Do(op)
			}
			if got := all(e); got != want {
				t.Errorf("What holds everywhere, 6: %v: an engine beside others tells\n%swant\n%s", g, got, want)
			}
		})
	}
	wait.Wait()
}

// after lets the model do steps.
func (m *model) after(script []api.Op) *model {
	for _, op := range script {
		m.Do(op)
	}
	return m
}

// TestQuestionsChangeNothing: an engine that is asked all the time does what one does that is never asked; and the same question gets the same answer.
func TestQuestionsChangeNothing(t *testing.T) {
	for seed := range 60 {
		w := seeded(seed)
		g := w.wornGround(t)
		a, b := g.open(t), g.open(t)
		for n, op := range w.script(t, g, 150) {
			if n%7 == 0 {
				if first, second := all(a), all(a); first != second {
					t.Fatalf("P19.8 to P19.13: %v: asked again, it tells\n%swant\n%s", g, second, first)
				}
			}
			if got, want := a.Do(op), b.Do(op); got != want {
				t.Fatalf("P19.8 to P19.13: %v: behind questions %s answers %d, want %d", g, opTold(op), got, want)
			}
		}
		if got, want := all(a), all(b); got != want {
			t.Fatalf("P19.8 to P19.13: %v: behind questions it tells\n%swant\n%s", g, got, want)
		}
	}
}

// TestAFileOfAnAnswerIsNoFileOfTheDisk: bytes that are written over behind Files don't come to the disk.
func TestAFileOfAnAnswerIsNoFileOfTheDisk(t *testing.T) {
	e := line().open(t)
	does(e, through+"; "+shoot)
	for _, f := range e.Files() {
		clear(f.Data)
	}
	for _, l := range e.Committed() {
		clear(l)
	}
	if got := does(e, "crash; recover") + " " + asked(e, "status") + " " + asked(e, "outs"); got != "11 12 up last 1 next 2 a=1" {
		t.Errorf("%s: behind answers that were written over: %s", rules, got)
	}
	files := e.Files()
	slices.Reverse(files)
	other := line().over(files...).open(t)
	for _, f := range files {
		clear(f.Data)
	}
	if got := does(other, "crash; recover") + " " + asked(other, "status"); got != "11 12 up last 1 next 2" {
		t.Errorf("%s: behind files that were written over: %s", rules, got)
	}
}

// TestPlayKeepsNothing: what Play is handed stays as it is, and what it answered stands when all of that is written over.
func TestPlayKeepsNothing(t *testing.T) {
	for seed := range 20 {
		w := seeded(seed)
		g := w.ground()
		script := "pick 0 0\ntrigger\nrepeat 60\n"
		for _, op := range w.at(g).Picks {
			script += opTold(op) + "\n"
		}
		script += "post\nend\ncrash\nrecover 1\n"
		want, err := engine.Play(g.text, script, g.mode, g.tapes...)
		given := g.roomy()
		before, steps := given.handed().Told(), lent(script)
		got, again := engine.Play(given.text, steps, given.mode, given.tapes...)
		if err != nil || again != nil || given.handed().Told() != before || steps != script || given.text != g.text {
			t.Fatalf("%s: %v: Play answers %v, %v, or changes what it is handed", rules, g, err, again)
		}
		given.writeOver()
		pen.Fill([][]byte{unsafe.Slice(unsafe.StringData(steps), len(steps))}, '#')
		if got != want {
			t.Fatalf("%s: %v: Play answers %q, want %q, behind texts that were written over", rules, g, got, want)
		}
	}
}
