package scale_test

import (
	"fmt"
	"testing"

	"eddy/api"
	"eddy/equal"
	"eddy/heal"
	"eddy/pen"
	"eddy/scale"
)

// told gives a shot's text, with the sum of the spread plan in the place of ?.
func (g ground) told(text string) string {
	return fmt.Sprintf(text, heal.Sum(g.wide().plan, g.tapes))
}

func TestShot(t *testing.T) {
	for _, x := range []struct {
		g     ground
		parts []api.Part
		want  string
	}{
		{sums(), []api.Part{part("0"), part("0", ""), part("0", "")}, "4 %d {0} {0 []} {0 []} {0 []} {0 []} {0 [] []}"},
		{sums(), []api.Part{part("3"), part("0; a:[1]; g:[5]; m:[6]", "z=2 | a=3@1"), part("2", "k=1 | k=2", "<m=5")},
			"4 %d {3} {0; a:[1] []} {2 [k=1 | k=2] <m=5>} {0 [z=2 | a=3@1]} {0; g:[5]; m:[6] []} {0 [] []}"},
		{sums().by("b", "c", "d"), []api.Part{part("3"), part("0; a:[1]; b:[2]; d:[3]", "z=2"), part("2", "", "<m=5 | m=6")},
			"4 %d {3} {0; a:[1] []} {2 [] <m=5 | m=6>} {0 [z=2]} {0; b:[2] []} {0 []} {0; d:[3] []} {0 [] [] [] []}"},
		{pairs(), []api.Part{part("1", "o=1"), part("0; g:[1]", "i=1 | i=2"), part("6")}, "4 %d {1 [o=1]} {0 []} {6} {0 [i=1 | i=2]} {0; g:[1] []} {0 [] []}"},
		{firsts(), []api.Part{part("1"), part("1", "o=1"), part("0; a:[]; b:[]; z:[]", "i=1")}, "4 %d {1} {1 [o=1]} {0; a:[] []} {0 [i=1]} {0; b:[] []} {0; z:[] []} {0 [] [] []}"},
		{loop(), []api.Part{part("1"), part("0", "h=1", "b=1@1 | b=2@2"), part("0; a:[1]; m:[5]", "f=1@0"), part("0", "t=1"), part("0", "k=1")},
			"4 %d {1} {0 [h=1] [b=1@1 | b=2@2]} {0; a:[1] []} {0 [t=1]} {0 [k=1]} {0 [f=1@0]} {0; m:[5] []} {0 [] []}"},
		{fork(), []api.Part{part("3", "l=1", "<p=1"), part("2"), part("0", "e=1"), part("0; q:[]", "d=1"), part("0; a:[1]; z:[2]", "f=1"), part("2", "", "<r=1 | r=2")},
			"4 %d {3 [l=1] <p=1>} {2} {0 [e=1]} {0; q:[] [d=1]} {0; a:[1] []} {2 [] <r=1 | r=2>} {0 [f=1]} {0 []} {0; z:[2] []} {0 [] [] []}"},
	} {
		x.g.wantShot(t, "P21.7", x.g.shot(x.parts...), x.g.told(x.want))
	}
	// The number is the shot's, whatever it is.
	for _, id := range []int{-1, 0, 1, 9999, 10000} {
		s := sums().shot(part("0"), part("0", ""), part("0", ""))
		s.Id = id
		sums().wantShot(t, "P21.7", s, fmt.Sprint(id, sums().told(" %d {0} {0 []} {0 []} {0 []} {0 []} {0 [] []}")))
	}
}

// misShots gives shots that don't fit the chapter's plan, by the error that Fits answers.
func misShots() map[string][]api.Shot {
	all := map[string][]api.Shot{}
	change := func(want string, f func(s *api.Shot)) {
		s := sums().shot(part("3"), part("0; a:[1]", "z=2"), part("2", "k=1", "<m=5"))
		f(&s)
		all[want] = append(all[want], s)
	}
	change("error 170", func(s *api.Shot) { s.Sum++ })
	change("error 170", func(s *api.Shot) { s.Sum, s.Parts = 0, nil })
	change("error 170", func(s *api.Shot) { s.Sum = heal.Sum(sums().wide().plan, sums().tapes) })
	change("error 171", func(s *api.Shot) { s.Parts = s.Parts[:2] })
	change("error 171", func(s *api.Shot) { s.Parts = append(s.Parts, api.Part{}) })
	change("error 171", func(s *api.Shot) { s.Parts = nil })
	change("error 172", func(s *api.Shot) { s.Parts[1].State.Num = 1 })
	change("error 172", func(s *api.Shot) { s.Parts[1].State.Cells[0].Vals = nil })
	change("error 173", func(s *api.Shot) { s.Parts[0].State.Num = 6 })
	change("error 174", func(s *api.Shot) { s.Parts[1].Logs = nil })
	change("error 174", func(s *api.Shot) { s.Parts[1].Logs = append(s.Parts[1].Logs, nil) })
	change("error 174", func(s *api.Shot) { s.Parts[0].Logs = append(s.Parts[0].Logs, nil) })
	change("error 175", func(s *api.Shot) { s.Parts[1].Logs[0][0].Key = "thirteen byte" })
	change("error 175", func(s *api.Shot) { s.Parts[2].Pend[0].Val.Kind = 5 })
	change("error 176", func(s *api.Shot) { s.Parts[1].Pend = pen.ReadRecords("a=1") })
	change("error 176", func(s *api.Shot) { s.Parts[2].Pend = pen.ReadRecords("a=1 | a=2 | a=3") })
	return all
}

// TestShotErrors: each error ahead of the next, whatever stands behind it.
func TestShotErrors(t *testing.T) {
	g := sums()
	right := g.shot(part("3"), part("0; a:[1]", "z=2"), part("2", "k=1", "<m=5"))
	shots := []api.Shot{right, {}}
	for want, l := range misShots() {
		for _, s := range l {
			shots = append(shots, s)
			g.wantShot(t, "P21.7", s, want)
		}
	}
	for _, s := range shots {
		for _, tapes := range append(misTapes(), g.tapes) {
			for want, p := range refusedPlans() {
				ground{plan: p, tapes: tapes, task: 0}.wantShot(t, "P21.7", s, want)
			}
			g.with(tapes).at(2).by().wantShot(t, "P21.7", s, "error 200")
			g.with(tapes).by("g", "g").wantShot(t, "P21.7", s, "error 201")
			ground{plan: great(10), tapes: tapes, task: 1, bounds: g.bounds}.wantShot(t, "P21.7", s, "error 70")
		}
		for _, tapes := range misTapes() {
			g.with(tapes).wantShot(t, "P21.7", s, "error 90")
		}
	}
	g.wantShot(t, "P21.7", right, g.told("4 %d {3} {0; a:[1] []} {2 [k=1] <m=5>} {0 [z=2]} {0 []} {0 [] []}"))
	g.with(pen.ReadLists("a=1")).wantShot(t, "P21.7", right, "error 170")
}

// TestDrawnShots: drawn shots, those that don't fit too, against the model; and P21.11.
func TestDrawnShots(t *testing.T) {
	met := map[string]int{}
	for seed := range 1500 {
		w := seeded(seed)
		g := w.ground()
		c := w.config(g)
		s, committed := w.shotOf(g, c, w.Below(5))
		switch w.Below(12) {
		case 0:
			s.Sum++
		case 1:
			s.Parts[w.Below(len(s.Parts))].State.Num++
		case 2:
			k := w.Below(len(s.Parts))
			s.Parts[k].Logs = append(s.Parts[k].Logs, nil)
		}
		m, e := scale.Shot(g.plan, g.tapes, g.task, s, g.bounds...)
		want, f := modelShot(g.plan, g.tapes, g.task, s, g.bounds...)
		if e != f || !equal.Shot(m, want) {
			t.Fatalf("P21.7: seed %d: %v: Shot of %s answers %s, %d, want %s, %d", seed, g, shotTold(s), shotTold(m), int(e), shotTold(want), int(f))
		}
		met[errorTold(e)]++
		if e == api.OK {
			if why := shotFault(g, s, m, committed); why != "" {
				t.Fatalf("P21.11: seed %d: %v: the shot %s becomes %s: %s", seed, g, shotTold(s), shotTold(m), why)
			}
		}
	}
	wantCases(t, met, 30, "error 0", "error 170", "error 172", "error 174")
}

// shotFault tells where a shot and its moved one don't stand for the same, over these output logs, and ones that hold more and less.
func shotFault(g ground, s, moved api.Shot, committed [][]api.Record) string {
	wide := g.wide()
	if e := heal.Fits(wide.plan, wide.shape(), wide.tapes, moved); e != api.OK {
		return fmt.Sprint("it doesn't fit: error ", int(e))
	}
	more := append([][]api.Record(nil), committed...)
	less := append([][]api.Record(nil), committed...)
	for k, l := range committed {
		more[k] = append(append([]api.Record(nil), l...), pen.ReadRecords("more=1 | more=2")...)
		less[k] = l[:max(0, len(l)-1)]
	}
	for _, outs := range [][][]api.Record{committed, more, less, nil} {
		c, e := heal.Config(g.plan, g.shape(), s, outs)
		got, f := heal.Config(wide.plan, wide.shape(), moved, outs)
		if e != f {
			return fmt.Sprint("heal.Config answers error ", int(f), ", want ", int(e))
		}
		if e != api.OK {
			continue
		}
		want, e := scale.Move(g.plan, g.tapes, g.task, c, g.bounds...)
		if e != api.OK || !equal.Config(got, want) {
			return fmt.Sprint("its configuration is ", pen.TellConfig(got), ", want ", pen.TellConfig(want), ", error ", int(e))
		}
	}
	return ""
}
