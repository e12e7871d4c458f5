package engine_test

import (
	"fmt"
	"testing"

	"eddy/api"
	"eddy/pen"
	"eddy/plan"
)

// A writer draws grounds, and steps for them.
type writer struct{ *pen.Steps }

func seeded(seed int) *writer { return &writer{pen.SeededSteps(seed)} }

// ground draws a plan with tapes and a mode, over an empty disk.
func (w *writer) ground() ground {
	p := pen.One(w.Pen, w.Plan(), w.Plan(), w.Plan(), w.Lean())
	p.Cap = pen.One(w.Pen, 1, 1, 2, 3, api.MaxCap)
	return w.groundOf(p)
}

// groundOf draws tapes and a mode for a plan. A plan or a tape whose text is too long is drawn anew.
func (w *writer) groundOf(p api.Plan) ground {
	for {
		tapes := w.Tapes(p, pen.One(w.Pen, 2, 5, 9))
		text, err := plan.PrintPlan(p)
		for _, tape := range tapes {
			if _, e := plan.PrintTape(tape); err == nil {
				err = e
			}
		}
		if err != nil || text == "" {
			p = w.Plan()
			continue
		}
		return on(p, tapes).in(w.Between(1, 3))
	}
}

// at gets the writer ready for a ground.
func (w *writer) at(g ground) *writer {
	_, sh, _, _ := g.parts()
	w.At(sh)
	return w
}

// script draws steps, as the model of a ground answers them.
func (w *writer) script(t *testing.T, g ground, count int) []api.Op {
	t.Helper()
	w.at(g)
	m := g.model(t)
	var all []api.Op
	for range count {
		op := w.Step(m.Status())
		m.Do(op)
		all = append(all, op)
	}
	return all
}

// disk draws what a disk holds: nothing, what an engine of the ground or of other tapes left there, whole or with something spoilt, and pieces.
func (w *writer) disk(t *testing.T, g ground) []api.File {
	t.Helper()
	var files []api.File
	from := g
	switch w.Below(6) {
	case 0:
	case 1:
		p, _, _, _ := g.parts()
		from = w.groundOf(p)
		if from.text != g.text {
			from = g
		}
		fallthrough
	default:
		m := from.model(t)
		for _, op := range w.script(t, from, w.Below(300)) {
			m.Do(op)
		}
		files = m.Files()
	}
	for range pen.One(w.Pen, 0, 0, 1, 1, 2) {
		files = w.Harmed(files)
	}
	return files
}

// opWord names the kind of a step.
func opWord(kind int) string {
	words := []string{"", "pick", "trigger", "post", "abort", "crash", "arm", "fail", "spoil", "recover"}
	if kind < 1 || kind >= len(words) {
		return "none"
	}
	return words[kind]
}

// TestDrawnScripts: an engine does what the model does, step by step, with everything that can go wrong.
func TestDrawnScripts(t *testing.T) {
	met := map[string]int{}
	for seed := range 300 {
		w := seeded(seed)
		g := w.ground()
		if w.Spoil = seed%4 == 0; seed%3 > 0 {
			g = g.over(w.disk(t, g)...)
		}
		w.at(g)
		e, m := g.open(t), g.model(t)
		var past []api.Op
		for n := range 400 {
			op := w.Step(m.Status())
			past = append(past, op)
			got, want := e.Do(op), m.Do(op)
			why := ""
			if n%20 == 0 || op.Kind != api.OpPick && w.Below(4) == 0 {
				why = difference(e, m)
			}
			if got != want || why != "" || e.Status() != m.Status() {
				t.Fatalf("P19.3 to P19.13: seed %d: %v: %s: the last answers %d, want %d; %s", seed, g, opsTold(past), got, want, why)
			}
			met[fmt.Sprint(opWord(op.Kind), " ", got)]++
		}
		if why := difference(e, m); why != "" {
			t.Fatalf("P19.8 to P19.13: seed %d: %v: %s: %s", seed, g, opsTold(past), why)
		}
	}
	wantCases(t, met, 100, "pick 1", "pick 2", "pick 3", "pick 4", "pick 5", "trigger 0", "trigger 6", "post 4", "post 7", "post 9", "post 10", "post 11",
		"crash 11", "arm 14", "fail 14", "recover 12", "pick 13")
	wantCases(t, met, 50, "abort 10")
	wantCases(t, met, 10, "pick 0", "abort 0", "recover 0", "none 0", "spoil 0", "spoil 14", "recover 11")
	wantCases(t, met, 5, "trigger 13")
}
