package engine_test

import (
	"fmt"
	"slices"
	"testing"

	"eddy/api"
	"eddy/pen"
	"eddy/plan"
)

// A writer draws grounds, and steps in bursts: what is left of one stands in queue.
type writer struct {
	*pen.Pen
	picks []api.Op // all that a fair round has, with the stream
	tasks int
	queue []api.Op
	calls int // how many steps between two that let something go wrong, on the whole
	spoil bool
}

func seeded(seed int) *writer { return &writer{Pen: pen.Seeded(seed), calls: 60} }

// ground draws a plan with tapes and a mode, over an empty disk.
func (w *writer) ground() ground {
	p := pen.One(w.Pen, w.Plan(), w.Plan(), w.Plan(), w.Lean())
	p.Cap = pen.One(w.Pen, 1, 1, 2, 3, api.MaxCap)
	return w.groundOf(p)
}

// groundOf draws tapes and a mode for a plan. A plan or a tape whose text is too long is drawn anew.
func (w *writer) groundOf(p api.Plan) ground {
	for {
		tapes := w.Tapes(p, pen.One(w.Pen, 2, 5, 9))
		text, err := plan.PrintPlan(p)
		for _, tape := range tapes {
			if _, e := plan.PrintTape(tape); err == nil {
				err = e
			}
		}
		if err != nil || text == "" {
			p = w.Plan()
			continue
		}
		return on(p, tapes).in(w.Between(1, 3))
	}
}

// at gets the writer ready for a ground.
func (w *writer) at(g ground) *writer {
	p, sh, _, _ := g.parts()
	w.picks, w.queue, w.tasks = nil, nil, len(p.Tasks)
	for _, task := range sh.Order {
		for port := range max(1, len(sh.Ins[task])) {
			w.picks = append(w.picks, api.Op{Kind: api.OpPick, A: task, B: port})
		}
	}
	return w
}

// round draws a fair round: with the stream, against it, or in any order; the post anywhere in it.
func (w *writer) round() []api.Op {
	var all []api.Op
	switch w.Below(3) {
	case 0:
		all = append(all, w.picks...)
	case 1:
		for n := range w.picks {
			all = append(all, w.picks[len(w.picks)-1-n])
		}
	default:
		for _, n := range w.Order(len(w.picks)) {
			all = append(all, w.picks[n])
		}
	}
	at := pen.One(w.Pen, 0, len(all), w.Below(len(all)))
	return append(append(append([]api.Op(nil), all[:at]...), api.Op{Kind: api.OpPost}), all[at:]...)
}

// keep draws what survives of a fall.
func (w *writer) keep() []int {
	var all []int
	if w.Below(3) == 0 {
		return []int{9999}
	}
	for range w.Below(4) {
		all = append(all, pen.One(w.Pen, 0, 9999, w.Below(60), -1, 9999))
	}
	return all
}

// wrong draws a step that lets something go wrong.
func (w *writer) wrong() api.Op {
	switch n := w.Below(10); {
	case n < 3:
		return api.Op{Kind: api.OpCrash}
	case n < 6:
		return api.Op{Kind: api.OpArm, A: pen.One(w.Pen, 0, w.Below(30), w.Below(200), w.Below(500))}
	case n < 9 || !w.spoil:
		// The last call of a save is the Sync of its manifest.
		return api.Op{Kind: api.OpFail, A: pen.One(w.Pen, 1, 1, 1, 2, 5), B: pen.One(w.Pen, 0, w.Below(8), w.Below(40), 2*w.tasks+1, 2*w.tasks+1)}
	}
	return api.Op{Kind: api.OpSpoil, A: w.Below(30), B: w.Below(200)}
}

// burst draws steps of a machine that is up.
func (w *writer) burst(s api.Status) []api.Op {
	if w.Below(w.calls/8+1) == 0 {
		return []api.Op{w.wrong()}
	}
	switch n := w.Below(20); {
	case n < 4 && s.Under == 0 || n == 0:
		return []api.Op{{Kind: api.OpTrigger}}
	case n < 7 && s.Under != 0:
		all := make([]api.Op, w.Below(w.tasks+2))
		for k := range all {
			all[k].Kind = api.OpPost
		}
		return all
	case n == 7 && w.Below(6) == 0:
		return []api.Op{{Kind: api.OpAbort}}
	case n == 8 && w.Below(4) == 0:
		return []api.Op{{Kind: w.Below(12) - 1, A: w.Between(-2, 3), B: w.Between(-2, 3)}}
	case n < 14:
		return w.round()
	}
	var all []api.Op
	for range w.Between(1, 2*len(w.picks)) {
		all = append(all, w.picks[w.Below(len(w.picks))])
	}
	return all
}

// op draws a step of a machine that stands so.
func (w *writer) op(s api.Status) api.Op {
	if !s.Up {
		w.queue = nil
		if w.spoil && w.Below(6) == 0 {
			return api.Op{Kind: api.OpSpoil, A: w.Below(30), B: w.Below(200)}
		}
		return api.Op{Kind: api.OpRecover, A: pen.One(w.Pen, 0, 0, 0, w.Below(60), w.Below(4), w.Below(4)), Keep: w.keep()}
	}
	for len(w.queue) == 0 {
		w.queue = w.burst(s)
	}
	op := w.queue[0]
	w.queue = w.queue[1:]
	// A spoil is drawn only where it is asked for.
	if op.Kind == api.OpSpoil && !w.spoil {
		return api.Op{Kind: api.OpPost}
	}
	return op
}

// script draws steps, as the model of a ground answers them.
func (w *writer) script(t *testing.T, g ground, count int) []api.Op {
	t.Helper()
	w.at(g)
	m := g.model(t)
	var all []api.Op
	for range count {
		op := w.op(m.Status())
		m.Do(op)
		all = append(all, op)
	}
	return all
}

// disk draws what a disk holds: nothing, what an engine of the ground or of other tapes left there, whole or with something spoilt, and pieces.
func (w *writer) disk(t *testing.T, g ground) []api.File {
	t.Helper()
	var files []api.File
	from := g
	switch w.Below(6) {
	case 0:
	case 1:
		p, _, _, _ := g.parts()
		from = w.groundOf(p)
		if from.text != g.text {
			from = g
		}
		fallthrough
	default:
		m := from.model(t)
		for _, op := range w.script(t, from, w.Below(300)) {
			m.Do(op)
		}
		files = m.Files()
	}
	for range pen.One(w.Pen, 0, 0, 1, 1, 2) {
		files = w.harmed(files)
	}
	return files
}

// harmed lets something go wrong with one of the files: it is gone, cut, less sure, or a bit of it is turned; or another one is there.
func (w *writer) harmed(files []api.File) []api.File {
	if len(files) == 0 || w.Below(5) == 0 {
		name := pen.One(w.Pen, "man-9999", "man-9998", "seg-9997-00", "seg-0400-11", "man-0001", "other")
		if slices.ContainsFunc(files, func(f api.File) bool { return f.Name == name }) {
			return files
		}
		return append(files, api.File{Name: name, Data: []byte("no frame"), Synced: w.Below(9)})
	}
	k := w.Below(len(files))
	f := &files[k]
	switch w.Below(4) {
	case 0:
		return slices.Delete(files, k, k+1)
	case 1:
		f.Data = f.Data[:w.Below(len(f.Data)+1)]
		f.Synced = min(f.Synced, len(f.Data))
	case 2:
		f.Synced = w.Below(f.Synced + 1)
	default:
		if len(f.Data) > 0 {
			f.Data[w.Below(len(f.Data))] ^= 1 << w.Below(8)
		}
	}
	return files
}

// opWord names the kind of a step.
func opWord(kind int) string {
	words := []string{"", "pick", "trigger", "post", "abort", "crash", "arm", "fail", "spoil", "recover"}
	if kind < 1 || kind >= len(words) {
		return "none"
	}
	return words[kind]
}

// TestDrawnScripts: an engine does what the model does, step by step, with everything that can go wrong.
func TestDrawnScripts(t *testing.T) {
	met := map[string]int{}
	for seed := range 300 {
		w := seeded(seed)
		g := w.ground()
		if w.spoil = seed%4 == 0; seed%3 > 0 {
			g = g.over(w.disk(t, g)...)
		}
		w.at(g)
		e, m := g.open(t), g.model(t)
		var past []api.Op
		for n := range 400 {
			op := w.op(m.Status())
			past = append(past, op)
			got, want := e.Do(op), m.Do(op)
			why := ""
			if n%20 == 0 || op.Kind != api.OpPick && w.Below(4) == 0 {
				why = difference(e, m)
			}
			if got != want || why != "" || e.Status() != m.Status() {
				t.Fatalf("P19.3 to P19.13: seed %d: %v: %s: the last answers %d, want %d; %s", seed, g, opsTold(past), got, want, why)
			}
			met[fmt.Sprint(opWord(op.Kind), " ", got)]++
		}
		if why := difference(e, m); why != "" {
			t.Fatalf("P19.8 to P19.13: seed %d: %v: %s: %s", seed, g, opsTold(past), why)
		}
	}
	wantCases(t, met, 100, "pick 1", "pick 2", "pick 3", "pick 4", "pick 5", "trigger 0", "trigger 6", "post 4", "post 7", "post 9", "post 10", "post 11",
		"crash 11", "arm 14", "fail 14", "recover 12", "pick 13")
	wantCases(t, met, 50, "abort 10")
	wantCases(t, met, 10, "pick 0", "abort 0", "recover 0", "none 0", "spoil 0", "spoil 14", "recover 11")
	wantCases(t, met, 5, "trigger 13")
}
