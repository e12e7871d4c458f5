package scale_test

import (
	"fmt"
	"sync"
	"testing"
	"unsafe"

	"eddy/api"
	"eddy/memory"
	"eddy/pen"
	"eddy/scale"
)

const rules = "What holds everywhere, 3"

// lent gives a text in bytes of its own, which can be written over afterwards.
func lent(s string) string {
	b := []byte(s)
	return unsafe.String(unsafe.SliceData(b), len(b))
}

// given is all that the calls are handed.
type given struct {
	plan   api.Plan
	tapes  [][]api.Record
	task   int
	config api.Config
	events []api.Event
	shot   api.Shot
	text   string
	texts  []string
	name   string
	files  []api.File
	bounds []string
}

// given draws what the calls are handed; in some cases they refuse it.
func (w *writer) given(t *testing.T) given {
	g := w.ground()
	c := w.config(g)
	l, _ := w.events(g, c, 20)
	s, _ := w.shotOf(g, c, 3)
	text, texts := g.texts()
	x := given{g.plan, g.tapes, g.task, c, l, s, text, texts, g.plan.Tasks[g.task].Name, w.disk(t, g), g.bounds}
	switch w.Below(10) {
	case 0:
		x.bounds = append(x.bounds, x.bounds[0])
	case 1:
		x.task, x.name = 0, "nobody"
	case 2:
		x.shot.Sum++
		x.config.States = x.config.States[1:]
		x.texts = append(x.texts, "x")
	}
	return x
}

// roomy gives the same of which everything can be written over.
func (x given) roomy() given {
	return given{memory.Roomy(x.plan, lent), memory.Roomy(x.tapes, lent), x.task, memory.Roomy(x.config, lent), memory.Roomy(x.events, lent), memory.Roomy(x.shot, lent),
		lent(x.text), memory.Roomy(x.texts, lent), lent(x.name), memory.Roomy(x.files, lent), memory.Roomy(x.bounds, lent)}
}

func (x given) memory() *memory.Memory {
	return memory.Of(x.plan, x.tapes, x.config, x.events, x.shot, x.text, x.texts, x.name, x.files, x.bounds)
}

// writeOver writes over all that hangs on it, its texts too.
func (x given) writeOver() {
	m := x.memory()
	for _, s := range m.Texts() {
		pen.Fill([][]byte{unsafe.Slice(unsafe.StringData(s), len(s))}, '#')
	}
	m.Scribble()
}

// answers gives what all calls answer that has lists or texts; and the errors, with the number that Place answers.
func (x given) answers() ([]any, string) {
	q, a := scale.Spread(x.plan, x.task, x.bounds...)
	c, b := scale.Move(x.plan, x.tapes, x.task, x.config, x.bounds...)
	l, d := scale.Follow(x.plan, x.tapes, x.task, x.config, x.events, x.bounds...)
	s, e := scale.Shot(x.plan, x.tapes, x.task, x.shot, x.bounds...)
	text, files, err := scale.Files(x.text, x.texts, x.name, x.files, x.bounds...)
	return []any{q, c, l, s, text, files}, fmt.Sprintf("%d %d %d %d, %s, %d", a, b, d, e, errorTold(err), scale.Place(x.name, x.bounds...))
}

// TestWhatIsHandedInStays: no call changes anything of it, the spare room neither; and no list that is answered shares memory with another one, handed in or answered.
func TestWhatIsHandedInStays(t *testing.T) {
	met := map[string]int{}
	for seed := range 150 {
		x := seeded(seed).given(t).roomy()
		before := x.memory().Told()
		first, errors := x.answers()
		second, _ := x.answers()
		if x.memory().Told() != before {
			t.Fatalf("%s: seed %d: what was handed in, or the spare room behind it, has changed", rules, seed)
		}
		all := append(append([]any{x.plan, x.tapes, x.config, x.events, x.shot, x.texts, x.files, x.bounds}, first...), second...)
		if !memory.Of(all...).Apart() {
			t.Fatalf("%s: seed %d: a list that is answered shares memory with another one", rules, seed)
		}
		met[errors[:7]]++
	}
	wantCases(t, met, 60, "0 0 0 0")
}

// TestNothingIsKept: all that is handed in, its texts too, is written over behind the call; what was answered stands.
func TestNothingIsKept(t *testing.T) {
	for seed := range 150 {
		x := seeded(seed).given(t)
		want, errors := x.answers()
		y := x.roomy()
		got, again := y.answers()
		y.writeOver()
		if fmt.Sprint(got) != fmt.Sprint(want) || errors != again {
			t.Fatalf("%s: seed %d: behind what is written over the answers are\n%v, want\n%v", rules, seed, got, want)
		}
		// And what is answered is the caller's.
		memory.Of(got...).Scribble()
		if third, _ := x.answers(); fmt.Sprint(third) != fmt.Sprint(want) {
			t.Fatalf("%s: seed %d: behind answers that are written over the answers are\n%v, want\n%v", rules, seed, third, want)
		}
	}
}

// TestAnswersCanBeAppendedTo: what is appended to one list of an answer is seen in no other one.
func TestAnswersCanBeAppendedTo(t *testing.T) {
	for seed := range 100 {
		x := seeded(seed).given(t)
		want, _ := x.answers()
		told := fmt.Sprint(want)
		got, _ := x.answers()
		memory.Of(got...).Extend()
		if fmt.Sprint(got) != told || fmt.Sprint(want) != told {
			t.Fatalf("%s: seed %d: what is appended to a list of an answer is seen in another one", rules, seed)
		}
	}
}

// emptied gives the same with each empty list nil, without room, or with room.
func emptied[T any](l []T, how int) []T {
	switch {
	case len(l) > 0:
		return l
	case how == 0:
		return nil
	case how == 1:
		return []T{}
	}
	return make([]T, 3)[:0]
}

// TestNilAndEmptyAreTheSame: as each list that is handed in.
func TestNilAndEmptyAreTheSame(t *testing.T) {
	g := sums()
	var want string
	for how := range 3 {
		x := given{plan: g.plan, tapes: [][]api.Record{emptied[api.Record](nil, how)}, task: 1, config: configOf("0 / 0 / 0 # / #"), events: emptied[api.Event](nil, how), name: "f", files: emptied[api.File](nil, how), bounds: g.bounds}
		x.plan.Tasks = append([]api.Task(nil), g.plan.Tasks...)
		x.shot = g.with(x.tapes).shot(part("0"), part("0", ""), part("0", ""))
		for k := range x.plan.Tasks {
			x.plan.Tasks[k].Exprs = emptied(x.plan.Tasks[k].Exprs, how)
			x.config.States[k].Cells = emptied[api.Cell](nil, how)
			x.shot.Parts[k].State.Cells, x.shot.Parts[k].Pend = emptied[api.Cell](nil, how), emptied[api.Record](nil, how)
			for n := range x.shot.Parts[k].Logs {
				x.shot.Parts[k].Logs[n] = emptied[api.Record](nil, how)
			}
			x.shot.Parts[k].Logs = emptied(x.shot.Parts[k].Logs, how)
		}
		x.config.Lanes[0], x.config.Outs[0] = emptied[api.Record](nil, how), emptied[api.Record](nil, how)
		x.text, x.texts = g.with(x.tapes).texts()
		for _, file := range []bool{false, true} {
			if file {
				x.files = []api.File{{Name: "out-02", Data: emptied[byte](nil, how)}, {Name: "man-0001", Data: emptied[byte](nil, how)}}
			}
			all, errors := x.answers()
			if got := fmt.Sprint(all, errors); how > 0 && !file && got != want || errors != "0 0 0 0, ok, 0" {
				t.Errorf("What holds everywhere, 2: the answers are\n%s, want\n%s", got, want)
			} else if !file {
				want = got
			}
		}
		// No bounds, no tapes, no plan.
		x.bounds = emptied[string](nil, how)
		if _, errors := x.answers(); errors != "201 201 201 201, error 201, 0" {
			t.Errorf("What holds everywhere, 2: without bounds: %s", errors)
		}
		x.bounds, x.tapes, x.texts = g.bounds, emptied[[]api.Record](nil, how), emptied[string](nil, how)
		if _, errors := x.answers(); errors != "0 90 90 90, error 90, 0" {
			t.Errorf("What holds everywhere, 2: without tapes: %s", errors)
		}
		x.plan = api.Plan{Cap: 1, Tasks: emptied[api.Task](nil, how), Edges: emptied[api.Edge](nil, how)}
		if _, errors := x.answers(); errors != "70 70 70 70, error 90, 0" {
			t.Errorf("What holds everywhere, 2: without a plan: %s", errors)
		}
	}
}

// TestCallsAtTheSameTime: calls that are handed the same lists run at the same time.
func TestCallsAtTheSameTime(t *testing.T) {
	for seed := range 5 {
		x := seeded(seed).given(t)
		want := fmt.Sprint(x.answers())
		var wait sync.WaitGroup
		for range 8 {
			wait.Go(func() {
				for range 3 {
					if got := fmt.Sprint(x.answers()); got != want {
						t.Errorf("What holds everywhere, 6: seed %d: beside others the answers are\n%s, want\n%s", seed, got, want)
						return
					}
				}
			})
		}
		wait.Wait()
	}
}
