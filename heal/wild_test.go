package heal_test

import (
	"fmt"
	"math"
	"slices"
	"testing"

	"eddy/api"
	"eddy/disk"
	"eddy/heal"
	"eddy/pen"
	"eddy/shape"
	"eddy/vault"
)

// odd draws a number, in most cases one that is out of every range.
func odd(w *pen.Wild) int {
	return pen.One(w.Pen, 0, 1, 2, -1, 5, 12, 13, 99, math.MinInt, math.MaxInt, math.MaxInt-1)
}

func odds(w *pen.Wild) []int {
	var all []int
	for range w.Below(6) {
		all = append(all, odd(w))
	}
	return all
}

// wildPlan changes a plan at some places; nobody asks whether it is valid.
func wildPlan(w *pen.Wild, p api.Plan) api.Plan {
	p.Tasks, p.Edges = slices.Clone(p.Tasks), slices.Clone(p.Edges)
	for range w.Below(4) {
		t := w.Below(len(p.Tasks) + 1)
		if t == len(p.Tasks) {
			p.Tasks = append(p.Tasks, api.Task{Name: "more", Kind: odd(w), Num: odd(w), Exprs: []string{"1", "(", "\xff"}[:w.Below(4)]})
		}
		switch w.Below(8) {
		case 0:
			p.Tasks[t].Kind = w.Between(-1, 15)
		case 1:
			p.Tasks[t].Num = odd(w)
		case 2:
			p.Tasks[t].Exprs = []string{"", "val", "1 +", "\n"}[:w.Below(5)]
		case 3:
			p.Tasks[t].Name = pen.One(w.Pen, "", "a\nb c", "\x00")
		case 4:
			p.Tasks = slices.Delete(p.Tasks, t, t+1)
		case 5:
			p.Edges = append(p.Edges, api.Edge{From: odd(w), Out: odd(w), To: odd(w), In: odd(w)})
		case 6:
			p.Edges = p.Edges[:w.Below(len(p.Edges)+1)]
		case 7:
			p.Cap = odd(w)
		}
	}
	return p
}

// wildShape changes a shape at some places, or gives another one.
func wildShape(w *pen.Wild, sh api.Shape) api.Shape {
	switch w.Below(4) {
	case 0:
		return api.Shape{}
	case 1:
		sh, _, _ = shape.Build(w.Plan())
	}
	sh.Ins, sh.Outs, sh.Sinks = slices.Clone(sh.Ins), slices.Clone(sh.Outs), slices.Clone(sh.Sinks)
	for range w.Below(4) {
		switch w.Below(6) {
		case 0:
			sh.Ins = sh.Ins[:w.Below(len(sh.Ins)+1)]
		case 1:
			sh.Outs = sh.Outs[:w.Below(len(sh.Outs)+1)]
		case 2:
			sh.Sinks = append(sh.Sinks, odd(w))
		case 3:
			sh.Sinks = sh.Sinks[:w.Below(len(sh.Sinks)+1)]
		case 4:
			sh.Ins = append(sh.Ins, odds(w))
		case 5:
			if len(sh.Ins) > 0 {
				sh.Ins[w.Below(len(sh.Ins))] = odds(w)
			}
		}
	}
	return sh
}

func wildLists(w *pen.Wild, count int) [][]api.Record {
	var all [][]api.Record
	for range count {
		all = append(all, w.Records(3))
	}
	return all
}

// wildShot changes a shot at some places.
func wildShot(w *pen.Wild, s api.Shot) api.Shot {
	s = turned(s, func(*api.Shot) {})
	for range w.Below(4) {
		n := w.Below(len(s.Parts) + 1)
		if n == len(s.Parts) {
			s.Parts = append(s.Parts, w.Part(5))
			continue
		}
		switch w.Below(6) {
		case 0:
			s.Parts[n] = w.Part(5)
		case 1:
			s.Parts[n].State.Num = odd(w)
		case 2:
			s.Parts[n].Pend = append(w.Records(3), api.Record{Val: pen.Deep(1 << 10)})
		case 3:
			s.Parts = s.Parts[:n]
		case 4:
			s.Parts[n].Logs = wildLists(w, w.Below(6))
		case 5:
			s.Parts[n].Pend = make([]api.Record, w.Below(20))
		}
	}
	return s
}

// calm makes a call and tells whether it panicked.
func calm(t *testing.T, what string, call func()) {
	t.Helper()
	defer func() {
		if r := recover(); r != nil {
			t.Fatalf("%s: %s panics: %v", rules, what, r)
		}
	}()
	call()
}

// wildVaults gives vaults that Open didn't make, or made of no disk, or of a disk that New didn't make.
func wildVaults() []*vault.Vault {
	return []*vault.Vault{nil, {}, vault.Open(nil), vault.Open(&disk.Disk{})}
}

// TestCallsOfAnything: shapes, plans, tapes, shots, outputs and vaults that aren't those of a right frame.
func TestCallsOfAnything(t *testing.T) {
	met := map[string]int{}
	for seed := range 6000 {
		w, right := pen.SeededWild(seed), seeded(seed)
		g := right.ground()
		shot := right.shot(g, 1)
		s := begun(g)
		s.Save(shot)
		p, sh, tapes, outs := g.plan, g.sh, g.tapes, right.outs(g, shot)
		if w.Below(3) > 0 {
			p = wildPlan(w, p)
		}
		if w.Below(3) > 0 {
			sh = wildShape(w, sh)
		}
		if w.Below(3) == 0 {
			tapes = wildLists(w, w.Below(6))
		}
		if w.Below(3) == 0 {
			outs = wildLists(w, w.Below(6))
		}
		if w.Below(3) > 0 {
			shot = wildShot(w, shot)
		}
		what := fmt.Sprintf("seed %d: plan %+v, shape %+v, shot %s", seed, p, sh, shotTold(shot))
		calm(t, what+": Sum", func() { shot.Sum = heal.Sum(p, tapes) })
		calm(t, what+": Fits", func() { met["fits: "+errorTold(heal.Fits(p, sh, tapes, shot))]++ })
		calm(t, what+": Config", func() {
			_, e := heal.Config(p, sh, shot, outs)
			met["config: "+errorTold(e)]++
		})
		v := s.Vault
		if w.Below(4) == 0 {
			v = wildVaults()[w.Below(4)]
		}
		// A shot with the sum of what is handed in is looked at further.
		if shot.Id = 2; w.Below(2) == 0 {
			s.Save(shot)
		}
		calm(t, what+": Newest", func() {
			f, e := heal.Newest(v, p, sh, tapes, outs)
			met[fmt.Sprint("newest: ", e == api.OK, ", found: ", f.Id)]++
		})
	}
	for e := api.ErrHealParts; e <= api.ErrHealPend; e++ {
		wantCases(t, met, 20, "fits: "+errorTold(e))
	}
	wantCases(t, met, 20, "fits: ok", "config: ok", "config: parts", "config: logs", "config: pend", "config: outs", "newest: true, found: 0", "newest: true, found: 1", "newest: true, found: 2", "newest: false, found: 0")
}

// TestVaultsThatAreNone: a right plan, and a vault that was never opened.
func TestVaultsThatAreNone(t *testing.T) {
	g := sums()
	for k, v := range wildVaults() {
		calm(t, fmt.Sprint("Newest of vault ", k), func() { heal.Newest(v, g.plan, g.sh, g.tapes, nil) })
	}
}

// TestThingsFarBeyondTheLimits: they are answered, and nothing panics.
func TestThingsFarBeyondTheLimits(t *testing.T) {
	g := line()
	deep := api.Record{Val: pen.Deep(1 << 15)}
	many := slices.Repeat([]api.Record{{Key: "a"}}, 1<<16)
	g.wantFits(t, "P17.2", g.shot(part("0"), api.Part{Logs: [][]api.Record{{deep}}}), "record")
	g.wantFits(t, "P17.2", g.shot(part("0"), api.Part{State: api.State{Cells: []api.Cell{{Vals: []api.Value{deep.Val}}}}, Logs: make([][]api.Record, 1)}), "state")
	g.wantFits(t, "P17.2", g.shot(part("0"), api.Part{State: api.State{Num: 1 << 16}, Logs: [][]api.Record{many}, Pend: many}), "ok")
	g.wantFits(t, "P17.2", g.shot(part("0"), api.Part{State: api.State{Num: 1<<16 - 1}, Logs: [][]api.Record{many}, Pend: many}), "pend")
	g.wantFits(t, "P17.2", g.shot(make([]api.Part, 1<<16)...), "parts")
	g.wantFits(t, "P17.2", g.shot(part("0"), api.Part{Logs: make([][]api.Record, 1<<16)}), "logs")
	c, e := heal.Config(g.plan, g.sh, g.shot(part("0"), api.Part{State: api.State{Num: 1 << 17}, Logs: [][]api.Record{many}, Pend: many}), [][]api.Record{many})
	if e != api.OK || len(c.Lanes[0]) != 1<<16 || len(c.Outs[0]) != 1<<17 {
		t.Errorf("P17.3: of many records Config answers error %d", e)
	}
	calm(t, "Sum of much", func() {
		heal.Sum(api.Plan{Tasks: make([]api.Task, 1<<16), Edges: make([]api.Edge, 1<<16)}, slices.Repeat([][]api.Record{{deep}}, 8))
	})
}
