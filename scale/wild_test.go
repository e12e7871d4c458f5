package scale_test

import (
	"fmt"
	"math"
	"slices"
	"strings"
	"testing"

	"eddy/api"
	"eddy/engine"
	"eddy/pen"
	"eddy/plan"
	"eddy/scale"
)

// odd gives numbers at which something may break.
func odd() []int {
	return []int{0, 1, -1, 2, 3, 5, 11, 12, 13, 63, 64, 65, 9999, 10000, 1 << 16, 1 << 30, 1<<30 + 1, 1 << 32, -1 << 32, math.MaxInt, math.MinInt}
}

func (w *writer) odd() int { return odd()[w.Below(len(odd()))] }

// wildPlan changes something of a plan, or makes one of anything.
func (w *writer) wildPlan(p api.Plan) api.Plan {
	p.Tasks, p.Edges = slices.Clone(p.Tasks), slices.Clone(p.Edges)
	for range w.Below(3) {
		if len(p.Tasks) == 0 || len(p.Edges) == 0 {
			break
		}
		t, e := &p.Tasks[w.Below(len(p.Tasks))], &p.Edges[w.Below(len(p.Edges))]
		switch w.Below(10) {
		case 0:
			p.Cap = w.odd()
		case 1:
			t.Kind = pen.One(w.Pen, w.odd(), api.Fold, api.Window, api.Dedup)
		case 2:
			t.Num = w.odd()
		case 3:
			t.Name = pen.One(w.Pen, "", "x0", "X", "\xff", strings.Repeat("x", 99))
		case 4:
			t.Exprs = pen.One(w.Pen, nil, []string{""}, []string{"val", "acc"}, []string{"((", "1"}, make([]string, 99))
		case 5:
			*e = api.Edge{From: w.odd(), Out: w.odd(), To: w.odd(), In: w.odd()}
		case 6:
			e.To = w.Below(len(p.Tasks))
		case 7:
			p.Edges = slices.Delete(p.Edges, 0, 1)
		case 8:
			p.Tasks = append(p.Tasks, *t)
		case 9:
			p.Edges = append(p.Edges, *e)
		}
	}
	return p
}

// wildConfig makes a configuration of anything, or changes something of one.
func wildConfig(w *pen.Wild, c api.Config) api.Config {
	c.States, c.Lanes, c.Outs = slices.Clone(c.States), slices.Clone(c.Lanes), slices.Clone(c.Outs)
	for range w.Below(3) {
		switch k := w.Below(100); w.Below(6) {
		case 0:
			c.States[k%len(c.States)] = w.State()
		case 1:
			c.Lanes[k%len(c.Lanes)] = w.Records(3)
		case 2:
			c.Outs[k%len(c.Outs)] = w.Records(3)
		case 3:
			c.States[k%len(c.States)].Num = odd()[k%len(odd())]
		case 4:
			return api.Config{States: make([]api.State, k%14), Lanes: make([][]api.Record, k%26), Outs: make([][]api.Record, k%4)}
		}
	}
	return c
}

// TestAnything: no call panics and each ends, whatever it is handed; and it answers what the model does.
func TestAnything(t *testing.T) {
	met := map[string]int{}
	for seed := range 3000 {
		w, wild := seeded(seed), pen.SeededWild(seed)
		g := w.ground()
		right := w.config(g)
		c, l := right, []api.Event(nil)
		if w.Below(3) > 0 {
			c = wildConfig(wild, right)
		} else {
			l, _ = w.events(g, right, 10)
		}
		s, _ := w.shotOf(g, w.config(g), w.odd())
		if g.plan = pen.One(w.Pen, g.plan, w.wildPlan(g.plan)); w.Below(4) == 0 {
			g.task = w.odd()
		}
		switch w.Below(5) {
		case 0:
			g.tapes = pen.One(w.Pen, nil, g.tapes[:1], append(slices.Clone(g.tapes), wild.Records(3)), make([][]api.Record, 9))
		case 1:
			g.bounds = pen.One(w.Pen, append(slices.Clone(g.bounds), w.bound()), []string{strings.Repeat("z", 1000)}, make([]string, 50), []string{"b", "a"}, []string{strings.Repeat("\xff", 12), strings.Repeat("\xff", 13)})
		case 2:
			s.Parts[w.Below(len(s.Parts))] = wild.Part(w.Below(3))
		case 3:
			s.Parts = pen.One(w.Pen, s.Parts, s.Parts, s.Parts[1:], append(s.Parts, api.Part{}))
		}
		if w.Below(2) == 0 {
			l = append(l, api.Event{Task: w.Below(len(g.plan.Tasks) + 1), Port: w.Below(2)})
		}
		if w.Below(5) == 0 {
			l = append(l, api.Event{Task: w.odd(), Port: w.odd()})
		}
		for name, ask := range map[string]func(x calls) string{
			"Spread": func(x calls) string { return x.spreads(g) }, "Move": func(x calls) string { return x.moves(g, c) },
			"Follow": func(x calls) string { return x.follows(g, c, l) }, "Shot": func(x calls) string { return x.shoots(g, s) },
		} {
			got, want := ask(layer()), ask(model())
			if got != want {
				t.Fatalf("seed %d: %v: %s answers\n%.2000s, want\n%.2000s", seed, g, name, got, want)
			}
			if !strings.HasPrefix(got, "error") {
				got = "ok"
			}
			met[name+" "+got]++
		}
	}
	wantCases(t, met, 100, "Spread ok", "Move ok", "Follow ok", "Shot ok", "Spread error 201", "Spread error 200", "Move error 90", "Move error 93")
	wantCases(t, met, 10, "Spread error 70", "Spread error 75", "Shot error 170", "Shot error 171", "Shot error 172", "Follow error 91", "Follow error 92")
}

// wildText changes something of a text.
func (w *writer) wildText(right string) string {
	text := []byte(right)
	for range w.Below(3) {
		if len(text) == 0 {
			break
		}
		at := w.Below(len(text))
		switch w.Below(4) {
		case 0:
			text[at] = byte(w.Below(256))
		case 1:
			text = slices.Delete(text, at, min(len(text), at+w.Between(1, 9)))
		case 2:
			text = slices.Insert(text, at, []byte(pen.One(w.Pen, "\n", " ", "0", "\"", "task k sink\n", "edge s.0 k.0\n", ";", "#"))...)
		default:
			text = append(text, text[at:]...)
		}
	}
	return string(text)
}

// wildDisk draws what a disk holds without any regard to what an engine lays there.
func (w *writer) wildDisk() []api.File {
	var files []api.File
	for range w.Below(20) {
		f := api.File{Name: pen.One(w.Pen, fmt.Sprintf("man-%04d", w.Below(12)), fmt.Sprintf("seg-%04d-%02d", w.Below(12), w.Below(14)), fmt.Sprintf("out-%02d", w.Below(14)), "man-9999", "seg-9998-00", "-", "zzzzzzzzzzzz")}
		if w.Below(20) > 0 && slices.ContainsFunc(files, func(x api.File) bool { return f.Name == x.Name }) {
			continue
		}
		for range pen.One(w.Pen, 0, 1, 16, 40, 300) {
			f.Data = append(f.Data, byte(pen.One(w.Pen, 0, 255, w.Below(256))))
		}
		f.Synced = pen.One(w.Pen, len(f.Data), w.Below(len(f.Data)+1))
		files = append(files, f)
	}
	return files
}

// TestAnyTextsAndFiles: every text as plan, tape and name, and every content of a disk.
func TestAnyTextsAndFiles(t *testing.T) {
	met := map[string]int{}
	for seed := range 500 {
		w := seeded(seed)
		g := w.ground()
		text, tapes := g.texts()
		name := g.plan.Tasks[g.task].Name
		files := w.wildDisk()
		if w.Below(3) == 0 {
			files = w.disk(t, g)
		}
		switch w.Below(6) {
		case 0:
			text = w.wildText(text)
		case 1:
			k := w.Below(len(tapes))
			tapes[k] = w.wildText(tapes[k])
		case 2:
			name = pen.One(w.Pen, "", "n0", "n1", "n2", strings.Repeat("n", 1000), "\xff", "x9")
		case 3:
			g.bounds = append(g.bounds, w.bound())
		}
		got, want := layer().lays(text, tapes, name, files, g.bounds), model().lays(text, tapes, name, files, g.bounds)
		if got != want {
			t.Fatalf("seed %d: the plan %q with the tapes %q, the task %q by %q over %s: Files answers\n%s, want\n%s", seed, text, tapes, name, g.bounds, filesTold(files), got, want)
		}
		if !strings.HasPrefix(got, "plan") {
			got, _, _ = strings.Cut(got, " ")
		} else {
			got = "ok"
		}
		met[got]++
	}
	wantCases(t, met, 20, "ok", "error", "fault")
}

// TestFarBeyond: great numbers of things, and great things, end.
func TestFarBeyond(t *testing.T) {
	g := sums()
	c := configOf("0 / 0 / 0 # / #")
	for k := range 20000 {
		c.Lanes[0] = append(c.Lanes[0], api.Record{Key: fmt.Sprint("k", k%7), Val: api.Value{Kind: api.Int, Int: int64(k)}})
	}
	if m, e := scale.Move(g.plan, g.tapes, g.task, c, "k3"); e != api.OK || len(m.Lanes[0]) != 20000 || len(m.Lanes) != 6 {
		t.Errorf("P21.5: a lane of 20000 records: error %d", int(e))
	}
	if l, e := scale.Follow(g.plan, g.tapes, g.task, c, pen.ReadEvents(strings.Repeat("1.0 2.0 ", 20)), "k3"); e != api.OK || len(l) != 80 {
		t.Errorf("P21.6: of a lane of 20000 records: error %d, %d events", int(e), len(l))
	}
	if l, e := scale.Follow(g.plan, g.tapes, g.task, configOf("0 / 0 / 0 # / #"), make([]api.Event, 1<<20), "k3"); e != api.ErrFlowStuck || l != nil {
		t.Errorf("P21.6: 2^20 events: error %d, %d events", int(e), len(l))
	}
	s := g.shot(part("0"), part("0", ""), part("0", ""))
	s.Parts[1].Logs[0] = c.Lanes[0]
	if m, e := scale.Shot(g.plan, g.tapes, g.task, s, "k3"); e != api.OK || len(m.Parts[3].Logs[0]) != 20000 {
		t.Errorf("P21.7: a log of 20000 records: error %d", int(e))
	}
	s.Parts = make([]api.Part, 1<<16)
	if _, e := scale.Shot(g.plan, g.tapes, g.task, s, "k3"); e != api.ErrHealParts {
		t.Errorf("P21.7: 2^16 parts: error %d", int(e))
	}
	great := api.Plan{Cap: 1, Tasks: make([]api.Task, 1<<16), Edges: make([]api.Edge, 1<<16)}
	if _, e := scale.Spread(great, 1, "k3"); e != api.ErrShapeSize {
		t.Errorf("P21.2: 2^16 tasks: error %d", int(e))
	}
	deep := api.Config{States: make([]api.State, 3), Lanes: [][]api.Record{{{Val: pen.Deep(1 << 16)}}, nil}, Outs: make([][]api.Record, 1)}
	if _, e := scale.Move(g.plan, g.tapes, g.task, deep, "k3"); e != api.ErrFlowFit {
		t.Errorf("P21.5: a value of 2^16 lists in one another: error %d", int(e))
	}
	text, tapes := g.texts()
	if _, _, err := scale.Files(strings.Repeat(text, 10000), tapes, "f", nil, "g"); errorTold(err) != "fault 0 0 error 60" {
		t.Errorf("P21.8: a great text: %v", err)
	}
	if _, _, err := scale.Files(text, tapes, strings.Repeat("f", 1<<20), nil, "g"); err != api.ErrScaleTask {
		t.Errorf("P21.8: a great name: %v", err)
	}
	many := make([]api.File, api.MaxFiles)
	for k := range many {
		many[k] = api.File{Name: fmt.Sprintf("man-%04d", 9999-k), Data: make([]byte, 100), Synced: 100}
	}
	if _, l, err := scale.Files(text, tapes, "f", many, "g"); err != nil || len(l) > 0 {
		t.Errorf("P21.8: 400 pieces of shots: %v, %s", err, filesTold(l))
	}
}

// TestAFullTaskPartsWays: at MaxCells nothing is promised of what the spread plan puts out, but an engine goes on there.
func TestAFullTaskPartsWays(t *testing.T) {
	g := reads("a=1 / b=2", "f", "m", "s source 0", "z source 1", "u union", "f fold 0 ; acc+val", "k sink", "s.0 u.0", "z.0 u.1", "u.0 f.0", "f.0 k.0")
	g.tapes = make([][]api.Record, 2)
	for k := range api.MaxTape {
		for n := range 2 {
			g.tapes[n] = append(g.tapes[n], api.Record{Key: fmt.Sprintf("%c%02d", 'k'+3*n, k), Val: api.Value{Kind: api.Int, Int: int64(k)}})
		}
	}
	w := seeded(1)
	w.At(g.shape())
	e := g.open(t, api.Recorded, nil)
	for n := range 500 {
		if n == 200 || n == 400 {
			e.Do(api.Op{Kind: api.OpTrigger})
		}
		for _, op := range w.Round() {
			e.Do(op)
		}
	}
	committed := e.Committed()
	if cells := e.Config().States[g.task].Cells; len(cells) != api.MaxCells || e.Status().Last != 2 || len(committed[0]) != api.MaxCells {
		t.Fatalf("the task has %d cells, %d records are committed", len(cells), len(committed[0]))
	}
	if why := g.filesFault(e.Files()); why != "" {
		t.Errorf("%s", why)
	}
	text, moved, err := g.files(e.Files())
	if _, tapes := g.texts(); err == nil {
		next, err := engine.New(text, tapes, api.Aligned, moved)
		if err != nil || prefixFault(committed, next.Committed()) != "" {
			t.Errorf("P21.12: %v", err)
		}
	}
	if p, _ := plan.ParsePlan(text); len(p.Tasks) != 8 || err != nil {
		t.Errorf("P21.8: %v, %v", p, err)
	}
}
