package heal_test

import (
	"fmt"
	"math"
	"slices"
	"strings"
	"testing"

	"eddy/api"
	"eddy/heal"
	"eddy/pen"
)

// sumsShot gives a shot of sums: three records are read, one waits ahead of the fold, one ahead of the sink, two are put out, one of them pending.
func sumsShot(g ground) api.Shot {
	return g.shot(part("3"), part("0; x:[3]", "y=3"), part("2", "x=3", "<x=1"))
}

// turned gives a shot with one thing changed.
func turned(s api.Shot, turn func(s *api.Shot)) api.Shot {
	s.Parts = slices.Clone(s.Parts)
	for k := range s.Parts {
		s.Parts[k].Logs = slices.Clone(s.Parts[k].Logs)
		s.Parts[k].Pend = slices.Clone(s.Parts[k].Pend)
	}
	turn(&s)
	return s
}

func TestFitsOfRightShots(t *testing.T) {
	g := sums()
	for _, parts := range [][]api.Part{
		{part("3"), part("0; x:[3]", "y=3"), part("2", "x=3", "<x=1")},
		{part("0"), part("0", ""), part("0", "")},
		{part("3"), part("0", ""), part("0", "")},
		{part("1"), part("0; x:[1]; y:[none]", "a=1@0@9 | b=[[[]]]"), part("1", "", "<a=1")},
		{part("0"), part("0", ""), part("1073741824", "", "<a=1")},
		{part("0"), part("0", ""), part("1073741824", "")},
	} {
		g.wantFits(t, "P17.2", g.shot(parts...), "ok")
	}
	mixed := mixed()
	mixed.wantFits(t, "P17.2", mixedShot(mixed), "ok")
	loop := loop()
	loop.wantFits(t, "P17.2", loop.shot(part("2"), part("0", "a=1", "b=2@1"), part("0", "a=1@0"), part("1", "", "<c=1")), "ok")
	for seed := range 500 {
		w := seeded(seed)
		g := w.ground()
		g.wantFits(t, "P17.2", w.shot(g, w.Between(1, 9999)), "ok")
	}
}

// TestFitsLooksAtNoId: any number does.
func TestFitsLooksAtNoId(t *testing.T) {
	g := sums()
	for _, id := range []int{0, 1, -1, 5, 9999, 10000, math.MinInt, math.MaxInt} {
		g.wantFits(t, "P17.2", turned(sumsShot(g), func(s *api.Shot) { s.Id = id }), "ok")
	}
}

func TestFitsOfAnotherSum(t *testing.T) {
	g := sums()
	for bit := range 32 {
		g.wantFits(t, "P17.2.1", turned(sumsShot(g), func(s *api.Shot) { s.Sum ^= 1 << bit }), "sum")
		g.wantFits(t, "P17.2.1", api.Shot{Sum: g.shot().Sum ^ 1<<bit}, "sum")
	}
	other := sums()
	other.plan.Cap = 2
	g.wantFits(t, "P17.2.1", sumsShot(other), "sum")
	other = sums()
	other.tapes[0][2].Val.Int = 4
	g.wantFits(t, "P17.2.1", sumsShot(other), "sum")
	other.wantFits(t, "P17.2.1", sumsShot(g), "sum")
	other.wantFits(t, "P17.2.1", sumsShot(other), "ok")
}

func TestFitsOfPartsTooFewAndTooMany(t *testing.T) {
	for _, g := range grounds() {
		n := len(g.plan.Tasks)
		for count := range n + 3 {
			s := api.Shot{Sum: heal.Sum(g.plan, g.tapes), Parts: make([]api.Part, count)}
			for k := range min(n, count) {
				s.Parts[k].Logs = make([][]api.Record, len(g.sh.Ins[k]))
			}
			want := "parts"
			if count == n {
				want = "ok"
			}
			g.wantFits(t, "P17.2.2", s, want)
		}
	}
}

// TestFitsOfStates: those that aren't legal for the task, by its kind, its number and value's rules.
func TestFitsOfStates(t *testing.T) {
	g := reads("a=1 | b=2",
		"s source 0", "o map key ; val", "i filter 1", "f fold 0 ; val", "u union", "p split 0", "e tee", "w window 2", "v window 1", "d dedup", "k sink",
		"s.0 o.0", "o.0 i.0", "i.0 f.0", "f.0 u.0", "u.0 p.0", "p.0 e.0", "e.0 w.0", "w.0 v.0", "v.0 d.0", "d.0 k.0")
	for task, states := range []struct{ right, wrong string }{
		{"0 / 2", "-1 / 1073741825 / 0; a:[] / 1; a:[1]"},
		{"0", "1 / -1 / 0; a:[1]"},
		{"0", "2 / 0; a:[]"},
		{"0 / 0; a:[1] / 0; :[[]]; a:[none]", "1 / 1; a:[1] / 0; a:[] / 0; a:[1, 2] / 0; b:[1]; a:[1] / 0; a:[1]; a:[1] / 0; thirteen keys:[1]"},
		{"0", "1 / 0; a:[1]"},
		{"0", "1 / 0; a:[1]"},
		{"0", "1 / 0; a:[]"},
		{"0 / 0; a:[5]", "1 / 0; a:[] / 0; a:[5, 6]"},
		{"0", "1 / 0; a:[] / 0; a:[5]"},
		{"0 / 0; a:[]; b:[]", "1 / 0; a:[5]"},
		{"0 / 7 / 1073741824", "-1 / 1073741825 / 0; a:[]"},
	} {
		for want, texts := range map[string]string{"ok": states.right, "state": states.wrong} {
			for _, state := range pen.ReadConfig(texts, "", "").States {
				s := g.shot(make([]api.Part, 11)...)
				for k := range s.Parts {
					s.Parts[k].Logs = make([][]api.Record, min(k, 1))
				}
				s.Parts[task].State = state
				g.wantFits(t, "P17.2.3, state", s, want)
			}
		}
	}
	m := mixed()
	for texts, want := range map[string]string{"0; a:[1, 5] / 0; a:[2, 5] / 0; a:[3, 1, 1]": "ok", "0; a:[1] / 0; a:[1, 2, 3] / 0; a:[3, 1] / 0; a:[4, 1] / 0; a:[0, 1] / 0; a:[none, 1] / 1": "state"} {
		for _, state := range pen.ReadConfig(texts, "", "").States {
			m.wantFits(t, "P17.2.3, state", turned(mixedShot(m), func(s *api.Shot) { s.Parts[2].State = state }), want)
		}
	}
	g.wantFits(t, "P17.2.3, state", turned(g.shot(make([]api.Part, 11)...), func(s *api.Shot) {
		s.Parts[0].State = api.State{Cells: []api.Cell{{Key: "a", Vals: []api.Value{{Kind: 4}}}}}
	}), "state")
}

// TestFitsOfOffsets: at the tape's end and one above it, of tapes of any length; two sources of one tape are looked at each by itself.
func TestFitsOfOffsets(t *testing.T) {
	for _, size := range []int{0, 1, 2, 63, 64} {
		tape := slices.Repeat([]api.Record{{Key: "a"}}, size)
		g := on(line().plan, [][]api.Record{tape, slices.Repeat(tape, 2)[:min(2*size, 64)], {{}}})
		for n := range 70 {
			want := "ok"
			if n > size {
				want = "offset"
			}
			g.wantFits(t, "P17.2.3, offset", g.shot(api.Part{State: api.State{Num: n}}, part("0", "")), want)
		}
		g.wantFits(t, "P17.2.3, offset", g.shot(part("1073741824"), part("0", "")), "offset")
		g.wantFits(t, "P17.2.3, offset", g.shot(part("0"), part("70", "")), "ok")
	}
	g := mixed()
	for task, most := range map[int]int{1: 1, 3: 2, 8: 2} {
		g.wantFits(t, "P17.2.3, offset", turned(mixedShot(g), func(s *api.Shot) { s.Parts[task].State.Num = most }), "ok")
		g.wantFits(t, "P17.2.3, offset", turned(mixedShot(g), func(s *api.Shot) { s.Parts[task].State.Num = most + 1 }), "offset")
	}
}

// TestFitsOfLogs: just as many as the task has in ports, a source none; whether they hold anything isn't looked at.
func TestFitsOfLogs(t *testing.T) {
	for _, g := range grounds() {
		for task := range g.plan.Tasks {
			for count := range 7 {
				for _, log := range [][]api.Record{nil, {{Key: "a"}}} {
					s := g.shot(make([]api.Part, len(g.plan.Tasks))...)
					for k := range s.Parts {
						s.Parts[k].Logs = make([][]api.Record, len(g.sh.Ins[k]))
					}
					s.Parts[task].Logs = slices.Repeat([][]api.Record{log}, count)
					want := "logs"
					if count == len(g.sh.Ins[task]) {
						want = "ok"
					}
					g.wantFits(t, "P17.2.3, logs", s, want)
				}
			}
		}
	}
}

// TestFitsOfRecords: each that may not be, at each place of each log and of the pending output; those at the edge may be.
func TestFitsOfRecords(t *testing.T) {
	g := mixed()
	right := []api.Record{{Key: "twelve bytes"}, {Loops: []int{0, 9, 9}}, {Val: api.Value{Kind: api.Text, Text: "a text of 24 bytes, just"}}, {Val: pen.Deep(3)}, {Val: api.Value{Kind: api.List, Items: make([]api.Value, 6)}}}
	wrong := []api.Record{{Key: "thirteenbytes"}, {Loops: []int{0, 0, 0, 0}}, {Loops: []int{10}}, {Loops: []int{-1}}, {Val: api.Value{Kind: api.Text, Text: "a text of 25 bytes, a bit"}}, {Val: pen.Deep(4)},
		{Val: api.Value{Kind: api.List, Items: make([]api.Value, 7)}}, {Val: api.Value{Kind: 4}}, {Val: api.Value{Int: 1}}, {Val: api.Value{Kind: -1}}}
	for want, records := range map[string][]api.Record{"ok": right, "record": wrong} {
		for _, r := range records {
			for task, p := range mixedShot(g).Parts {
				for port := range p.Logs {
					for at := range len(p.Logs[port]) + 1 {
						g.wantFits(t, "P17.2.3, record", turned(mixedShot(g), func(s *api.Shot) {
							s.Parts[task].Logs[port] = slices.Insert(slices.Clone(p.Logs[port]), at, r)
						}), want)
					}
				}
				for at := range p.Pend {
					g.wantFits(t, "P17.2.3, record", turned(mixedShot(g), func(s *api.Shot) { s.Parts[task].Pend[at] = r }), want)
				}
			}
		}
	}
}

// TestFitsOfPend: none at a task that is no sink, whatever its number is; at a sink at most as many as its number.
func TestFitsOfPend(t *testing.T) {
	g := mixed()
	for task, kind := range g.plan.Tasks {
		for count := range 5 {
			for num := range 4 {
				s := turned(mixedShot(g), func(s *api.Shot) {
					s.Parts[task].Pend = slices.Repeat([]api.Record{{Key: "a"}}, count)
					if kind.Kind == api.Sink || kind.Kind == api.Source && num <= len(g.tapes[kind.Num]) {
						s.Parts[task].State.Num = num
					}
				})
				want := "ok"
				if count > 0 && (kind.Kind != api.Sink || count > num) {
					want = "pend"
				}
				g.wantFits(t, "P17.2.3, pend", s, want)
			}
		}
	}
}

// faulty makes a part of sums wrong in those ways that are told by letters, and tells which error comes first: S state, O offset (of a source), L logs, R record, P pend.
func faulty(p *api.Part, task int, letters string) string {
	has := func(letter string) bool { return strings.Contains(letters, letter) }
	wrong := api.Record{Loops: []int{10}}
	if has("S") {
		p.State.Cells = []api.Cell{{Key: "a", Vals: make([]api.Value, 5)}}
	}
	if has("O") && task == 0 {
		p.State.Num = 4
	}
	if has("P") {
		p.Pend = make([]api.Record, p.State.Num+1)
	}
	switch {
	case has("R") && task > 0:
		p.Logs[0] = []api.Record{{}, wrong}
	case has("R"):
		p.Pend = append(p.Pend, wrong)
	}
	if has("L") {
		p.Logs = append(p.Logs, nil)
	}
	for k, letter := range []string{"S", "O", "L", "R", "P"} {
		if has(letter) && (letter != "O" || task == 0) {
			return []string{"state", "offset", "logs", "record", "pend"}[k]
		}
	}
	return "ok"
}

// subsets gives all choices of the letters of a text.
func subsets(letters string) []string {
	all := []string{""}
	for _, letter := range letters {
		for _, one := range all {
			all = append(all, one+string(letter))
		}
	}
	return all
}

// TestFitsInOrder: a part that is wrong in several ways answers the first of them; of several parts the first wrong one answers, whatever is wrong behind it.
func TestFitsInOrder(t *testing.T) {
	g := sums()
	for _, one := range subsets("SOLRP") {
		for _, other := range subsets("SOLRP") {
			for _, tasks := range [][2]int{{0, 1}, {0, 2}, {1, 2}} {
				want := "ok"
				s := turned(sumsShot(g), func(s *api.Shot) {
					first, second := faulty(&s.Parts[tasks[0]], tasks[0], one), faulty(&s.Parts[tasks[1]], tasks[1], other)
					if want = first; want == "ok" {
						want = second
					}
				})
				g.wantFits(t, "P17.2.3", s, want)
				s.Sum++
				g.wantFits(t, "P17.2.1", s, "sum")
				s.Sum--
				g.wantFits(t, "P17.2.2", turned(s, func(s *api.Shot) { s.Parts = s.Parts[:2] }), "parts")
				g.wantFits(t, "P17.2.2", turned(s, func(s *api.Shot) { s.Parts = append(s.Parts, api.Part{}) }), "parts")
				g.wantFits(t, "P17.2.1", turned(s, func(s *api.Shot) { s.Sum, s.Parts = s.Sum+1, s.Parts[:2] }), "sum")
			}
		}
	}
}

// TestDrawnShots: right ones and ones that are wrong at up to three places, against the model; what a shot that fits stands for is a configuration of the plan.
func TestDrawnShots(t *testing.T) {
	met := map[string]int{}
	for seed := range 6000 {
		w := seeded(seed)
		g := w.ground()
		s := w.shot(g, w.Between(1, 9999))
		s = turned(s, func(*api.Shot) {})
		var spoilt []string
		for range pen.One(w.Pen, 0, 1, 1, 1, 2, 3) {
			spoilt = append(spoilt, w.spoil(g, &s))
		}
		fits := heal.Fits(g.plan, g.sh, g.tapes, s)
		if want := modelFits(g.plan, g.sh, g.tapes, s); fits != want {
			t.Fatalf("P17.2: seed %d: %v: %q: Fits of %s answers %s, want %s", seed, g, spoilt, shotTold(s), errorTold(fits), errorTold(want))
		}
		met["fits: "+errorTold(fits)]++
		met[fmt.Sprint("faults: ", len(spoilt))]++
		if len(spoilt) == 1 {
			met[spoilt[0]]++
		}
		for range 3 {
			outs := w.outs(g, s)
			e, why := g.configFault(s, outs, fits == api.OK)
			if why != "" {
				t.Fatalf("%s (seed %d, %q)", why, seed, spoilt)
			}
			met[fmt.Sprint("fits: ", fits == api.OK, ", config: ", errorTold(e))]++
		}
	}
	for e := api.ErrHealSum; e <= api.ErrHealPend; e++ {
		wantCases(t, met, 60, "fits: "+errorTold(e))
	}
	wantCases(t, met, 20, "record that is pending")
	wantCases(t, met, 60, "fits: ok", "sum", "fewer parts", "more parts", "state", "offset", "fewer logs", "more logs", "record in a log", "pending at another task", "too much pending", "faults: 0", "faults: 2", "faults: 3",
		"fits: true, config: ok", "fits: true, config: outs", "fits: false, config: ok", "fits: false, config: parts", "fits: false, config: logs", "fits: false, config: pend", "fits: false, config: outs")
	for _, never := range []string{"fits: true, config: parts", "fits: true, config: logs", "fits: true, config: pend"} {
		if met[never] > 0 {
			t.Errorf("P17.3: the case %q comes about", never)
		}
	}
}
