package heal_test

import (
	"fmt"
	"math"
	"slices"
	"testing"

	"eddy/api"
	"eddy/equal"
	"eddy/heal"
	"eddy/pen"
)

// configFault holds Config against the model, and a shot that fits against flow: its error, and what is wrong.
func (g ground) configFault(s api.Shot, outs [][]api.Record, fits bool) (api.Errno, string) {
	got, e := heal.Config(g.plan, g.sh, s, outs)
	want, f := modelConfig(g.plan, g.sh, s, outs)
	if e != f || !equal.Config(got, want) {
		return e, fmt.Sprintf("P17.3: %v: Config of %s with the outputs %s answers %s, %s, want %s, %s", g, shotTold(s), pen.TellLists(outs), pen.TellConfig(got), errorTold(e), pen.TellConfig(want), errorTold(f))
	}
	if fits && e == api.OK {
		if e := g.flow().Fits(got); e != api.OK {
			return e, fmt.Sprintf("P17.8: %v: Config of %s answers %s, which isn't one of the plan's: error %d", g, shotTold(s), pen.TellConfig(got), e)
		}
	}
	return e, ""
}

func TestConfig(t *testing.T) {
	g := sums()
	for _, x := range []struct {
		parts []api.Part
		outs  string
		want  string
	}{
		{[]api.Part{part("0"), part("0", ""), part("0", "")}, "", "0 / 0 / 0 # / #"},
		{[]api.Part{part("3"), part("0; x:[3]", "y=3"), part("2", "x=3", "<x=1")}, "o=1", "3 / 0; x:[3] / 2 # y=3 / x=3 # o=1 | x=1"},
		{[]api.Part{part("2"), part("0", "y=3 | y=4@1"), part("2", "", "<x=1 | x=2")}, "", "2 / 0 / 2 # y=3 | y=4@1 / # x=1 | x=2"},
		{[]api.Part{part("2"), part("0", ""), part("2", "x=1 | x=1")}, "o=1 | o=2", "2 / 0 / 2 # / x=1 | x=1 # o=1 | o=2"},
		{[]api.Part{part("2"), part("0", ""), part("2", "")}, "o=1 | o=2 | o=3 | o=4", "2 / 0 / 2 # / # o=1 | o=2"},
		{[]api.Part{part("2"), part("0", ""), part("3", "", "<p=1")}, "o=1 | o=2 | o=3 | o=4", "2 / 0 / 3 # / # o=1 | o=2 | p=1"},
		{[]api.Part{part("2"), part("0", ""), part("3", "", "<p=1 | p=2 | p=3")}, "o=1 | o=2 | o=3 | o=4", "2 / 0 / 3 # / # p=1 | p=2 | p=3"},
	} {
		outs := pen.ReadLists(x.outs)
		g.wantFits(t, "P17.2", g.shot(x.parts...), "ok")
		g.wantConfig(t, "P17.3", g.shot(x.parts...), outs, x.want)
		// A list that no sink has isn't looked at, and one that is missing is empty.
		g.wantConfig(t, "P17.3", g.shot(x.parts...), append(outs, pen.ReadRecords("n=1 | n=2")), x.want)
		if x.outs == "" {
			g.wantConfig(t, "P17.3", g.shot(x.parts...), nil, x.want)
		}
	}
}

// TestConfigOfPorts: lanes go by the in ports to which the edges lead, outputs by the order of the sinks.
func TestConfigOfPorts(t *testing.T) {
	g := mixed()
	outs := pen.ReadLists("f=1 | f=2 / g=1 / h=1 | h=2 | h=3 | h=4 | h=5")
	g.wantConfig(t, "P17.3", mixedShot(g), outs, mixedConfig)
	loop := loop()
	loop.wantConfig(t, "P17.3", loop.shot(part("2"), part("0", "a=1", "b=2@1"), part("0", "c=3@0"), part("1", "d=4", "<e=5")), nil,
		"2 / 0 / 0 / 1 # a=1 / c=3@0 / b=2@1 / d=4 # e=5")
	for seed := range 300 {
		w := seeded(seed)
		g := w.ground()
		s := w.shot(g, 1)
		c, _ := heal.Config(g.plan, g.sh, s, nil)
		if len(c.States) == 0 {
			var outs [][]api.Record
			for _, sink := range g.sh.Sinks {
				outs = append(outs, w.Records(s.Parts[sink].State.Num, 0))
			}
			c, _ = heal.Config(g.plan, g.sh, s, outs)
		}
		for task, ins := range g.sh.Ins {
			for port, edge := range ins {
				if !equal.Records(c.Lanes[edge], s.Parts[task].Logs[port]) {
					t.Fatalf("P17.3: %v: the lane of edge %d holds %s, want the log of port %d of task %d: %s", g, edge, pen.TellRecords(c.Lanes[edge]), port, task, pen.TellRecords(s.Parts[task].Logs[port]))
				}
			}
		}
	}
}

// TestConfigOfTooLittleOutput: each sink's list is looked at, and each number of records of it.
func TestConfigOfTooLittleOutput(t *testing.T) {
	g := mixed()
	enough := pen.ReadLists("f=1 | f=2 / / h=1 | h=2 | h=3 | h=4")
	g.wantConfig(t, "P17.3", mixedShot(g), enough, mixedConfig)
	for k, l := range enough {
		for n := range l {
			outs := slices.Clone(enough)
			outs[k] = l[:n]
			g.wantConfig(t, "P17.3, outs", mixedShot(g), outs, "outs")
			for m := range enough {
				if m != k {
					outs[m] = slices.Concat(outs[m], enough[2])
				}
			}
			g.wantConfig(t, "P17.3, outs", mixedShot(g), outs, "outs")
		}
	}
	for count := range 3 {
		g.wantConfig(t, "P17.3, outs", mixedShot(g), enough[:count], "outs")
	}
	// A sink that asks for none needs no list, though the ones behind it do.
	s := turned(mixedShot(g), func(s *api.Shot) { s.Parts[9].State.Num = 0 })
	g.wantConfig(t, "P17.3", s, enough[:1], "3 / 1 / 0; a:[1, 5]; b:[3, 1, 2] / 2 / 0; a:[1, 2] / 2 / 0 / 0; z:[] / 0 / 0 / 0 # / j=1 | j=1 / w=1 / u=1 / e=[]@1@0 / j=0 / d=none / l=1 | l=2 / m=4 / u=0 | u=0 | u=0 # f=1 | f=2 | o=3 / p=1 | p=2 /")
	line := line()
	for _, num := range []int{1, 2, api.MaxNum - 1, api.MaxNum, math.MaxInt} {
		line.wantConfig(t, "P17.3, outs", line.shot(part("0"), api.Part{State: api.State{Num: num}, Logs: make([][]api.Record, 1)}), nil, "outs")
		line.wantConfig(t, "P17.3, outs", line.shot(part("0"), api.Part{State: api.State{Num: num}, Logs: make([][]api.Record, 1), Pend: pen.ReadRecords("a=1")}), nil, map[bool]string{true: "0 / 1 # # a=1", false: "outs"}[num == 1])
	}
}

// TestConfigOfShotsThatDontFit: each error ahead of the next, over all tasks; what isn't among them stops nothing.
func TestConfigOfShotsThatDontFit(t *testing.T) {
	g := sums()
	enough := pen.ReadLists("o=1 | o=2 | o=3")
	more := func(p *api.Part) { p.Logs = append(p.Logs, nil) }
	for bits := range 1 << 4 {
		for _, tasks := range [][2]int{{0, 1}, {1, 0}, {0, 2}, {2, 0}, {1, 2}, {2, 1}, {0, 0}, {1, 1}, {2, 2}} {
			want, outs := "", enough
			s := turned(sumsShot(g), func(s *api.Shot) {
				if bits&1 != 0 {
					want, outs = "outs", nil
				}
				if bits&2 != 0 {
					s.Parts[tasks[1]].Pend = make([]api.Record, s.Parts[tasks[1]].State.Num+1)
					want = "pend"
				}
				if bits&4 != 0 {
					more(&s.Parts[tasks[0]])
					want = "logs"
				}
				if bits&8 != 0 {
					s.Parts = s.Parts[:2]
					want = "parts"
				}
			})
			if want == "" {
				want = "3 / 0; x:[3] / 2 # y=3 / x=3 # o=1 | x=1"
			}
			g.wantConfig(t, "P17.3", s, outs, want)
		}
	}
	for count := range 6 {
		if count != 3 {
			g.wantConfig(t, "P17.3, parts", g.shot(make([]api.Part, count)...), enough, "parts")
		}
	}
	g.wantConfig(t, "P17.3, logs", g.shot(make([]api.Part, 3)...), enough, "logs")
	// A number below 0 is less than no records at all.
	for task := range 3 {
		for _, num := range []int{-1, math.MinInt} {
			g.wantConfig(t, "P17.3, pend", turned(sumsShot(g), func(s *api.Shot) { s.Parts[task].State.Num, s.Parts[task].Pend = num, nil }), enough, "pend")
		}
	}
}

// TestConfigAllTheSame: of a shot that doesn't fit, where no error of Config applies.
func TestConfigAllTheSame(t *testing.T) {
	g := sums()
	outs := pen.ReadLists("o=1")
	right := "3 / 0; x:[3] / 2 # y=3 / x=3 # o=1 | x=1"
	for _, x := range []struct {
		fits string
		turn func(s *api.Shot)
		want string
	}{
		{"sum", func(s *api.Shot) { s.Sum++ }, right},
		{"ok", func(s *api.Shot) { s.Id = -1 }, right},
		{"state", func(s *api.Shot) { s.Parts[1].State = pen.ReadState("7; b:[1]; a:[1]") }, "3 / 7; b:[1]; a:[1] / 2 # y=3 / x=3 # o=1 | x=1"},
		{"offset", func(s *api.Shot) { s.Parts[0].State.Num = 4 }, "4 / 0; x:[3] / 2 # y=3 / x=3 # o=1 | x=1"},
		{"state", func(s *api.Shot) { s.Parts[2].State.Cells = pen.ReadState("0; a:[]").Cells }, "3 / 0; x:[3] / 2; a:[] # y=3 / x=3 # o=1 | x=1"},
		{"record", func(s *api.Shot) { s.Parts[1].Logs[0] = pen.ReadRecords("y=3@10") }, "3 / 0; x:[3] / 2 # y=3@10 / x=3 # o=1 | x=1"},
		{"record", func(s *api.Shot) { s.Parts[2].Pend = pen.ReadRecords("thirteenbytes=3") }, "3 / 0; x:[3] / 2 # y=3 / x=3 # o=1 | thirteenbytes=3"},
		{"pend", func(s *api.Shot) { s.Parts[0].Pend = pen.ReadRecords("p=1 | p=2 | p=3") }, right},
		{"state", func(s *api.Shot) { s.Parts[1].State.Num, s.Parts[1].Pend = 1, pen.ReadRecords("p=1") }, "3 / 1; x:[3] / 2 # y=3 / x=3 # o=1 | x=1"},
	} {
		s := turned(sumsShot(g), x.turn)
		g.wantFits(t, "P17.2", s, x.fits)
		g.wantConfig(t, "P17.3", s, outs, x.want)
	}
}

// TestConfigAsksNothingOfOuts: records of outs that may not be are taken as they are; P17.8 asks for valid ones.
func TestConfigAsksNothingOfOuts(t *testing.T) {
	g := line()
	s := g.shot(part("0"), part("1", ""))
	g.wantConfig(t, "P17.3", s, pen.ReadLists("thirteenbytes=1@10"), "0 / 1 # # thirteenbytes=1@10")
	c, _ := heal.Config(g.plan, g.sh, s, pen.ReadLists("thirteenbytes=1@10"))
	if e := g.flow().Fits(c); e != api.ErrFlowFit {
		t.Errorf("P9.3: such an output fits: error %d", e)
	}
}
