package heal_test

import (
	"fmt"
	"strings"
	"testing"

	"eddy/api"
	"eddy/equal"
	"eddy/flow"
	"eddy/heal"
	"eddy/pen"
	"eddy/plan"
	"eddy/shape"
)

// A ground is a right frame: a valid plan, its shape, and tapes for it.
type ground struct {
	plan  api.Plan
	sh    api.Shape
	tapes [][]api.Record
}

// on gives the ground of a plan and tapes. A test that has none is at fault itself: it panics.
func on(p api.Plan, tapes [][]api.Record) ground {
	sh, _, e := shape.Build(p)
	if e != api.OK {
		panic(fmt.Sprint("no plan: error ", int(e)))
	}
	if _, e := flow.New(p, tapes); e != api.OK {
		panic(fmt.Sprint("no tapes: error ", int(e)))
	}
	return ground{p, sh, tapes}
}

// reads gives the ground of tapes and of a plan, told line by line.
func reads(tapes string, lines ...string) ground {
	return on(pen.ReadPlan(lines...), pen.ReadLists(tapes))
}

func (g ground) String() string {
	text, _ := plan.PrintPlan(g.plan)
	return fmt.Sprintf("the plan\n%swith the tapes %s", text, pen.TellLists(g.tapes))
}

func (g ground) flow() *flow.Flow {
	f, e := flow.New(g.plan, g.tapes)
	if e != api.OK {
		panic(fmt.Sprint("no flow: error ", int(e)))
	}
	return f
}

// shot gives a shot with the ground's sum.
func (g ground) shot(parts ...api.Part) api.Shot {
	return api.Shot{Id: 4, Sum: heal.Sum(g.plan, g.tapes), Parts: parts}
}

// part reads a part: its state, and behind it its logs; a list that begins with < is the pending output.
func part(state string, lists ...string) api.Part {
	p := api.Part{State: pen.ReadState(state)}
	for _, l := range lists {
		if pend, is := strings.CutPrefix(l, "<"); is {
			p.Pend = pen.ReadRecords(pend)
		} else {
			p.Logs = append(p.Logs, pen.ReadRecords(l))
		}
	}
	return p
}

// errorTold writes an error of this layer as a word.
func errorTold(e api.Errno) string {
	words := []string{"sum", "parts", "state", "offset", "logs", "record", "pend", "outs"}
	switch at := int(e) - 170; {
	case e == api.OK:
		return "ok"
	case at >= 0 && at < len(words):
		return words[at]
	}
	return fmt.Sprint("error ", int(e))
}

// shotTold writes a shot: its number, its sum, and of each part the state, the logs in brackets and the pending output in angles.
func shotTold(s api.Shot) string {
	text := fmt.Sprint(s.Id, " ", s.Sum)
	for _, p := range s.Parts {
		text += " {" + pen.TellState(p.State)
		for _, l := range p.Logs {
			text += " [" + pen.TellRecords(l) + "]"
		}
		if len(p.Pend) > 0 {
			text += " <" + pen.TellRecords(p.Pend) + ">"
		}
		text += "}"
	}
	if len(text) > 1000 {
		text = text[:1000] + " .."
	}
	return text
}

// wantFits fails the test where Fits, or the model of it, answers another error.
func (g ground) wantFits(t *testing.T, promise string, s api.Shot, want string) {
	t.Helper()
	for name, fits := range map[string]func(api.Plan, api.Shape, [][]api.Record, api.Shot) api.Errno{"": heal.Fits, "the model: ": modelFits} {
		if got := errorTold(fits(g.plan, g.sh, g.tapes, s)); got != want {
			t.Errorf("%s%s: %v: Fits of %s answers %s, want %s", name, promise, g, shotTold(s), got, want)
		}
	}
}

// wantConfig fails the test where Config, or the model of it, answers another error or configuration: want is one of both.
func (g ground) wantConfig(t *testing.T, promise string, s api.Shot, outs [][]api.Record, want string) {
	t.Helper()
	for name, config := range map[string]func(api.Plan, api.Shape, api.Shot, [][]api.Record) (api.Config, api.Errno){"": heal.Config, "the model: ": modelConfig} {
		c, e := config(g.plan, g.sh, s, outs)
		got := pen.TellConfig(c)
		if e != api.OK {
			got = errorTold(e)
			if len(c.States)+len(c.Lanes)+len(c.Outs) > 0 {
				got += " and " + pen.TellConfig(c)
			}
		}
		if spaced(got) != spaced(want) {
			t.Errorf("%s%s: %v: Config of %s with the outputs %s answers %s, want %s", name, promise, g, shotTold(s), pen.TellLists(outs), got, want)
		}
	}
}

// spaced writes a text with one blank where there are several.
func spaced(s string) string { return strings.Join(strings.Fields(s), " ") }

// wantCases fails the test where a case was met too seldom.
func wantCases(t *testing.T, met map[string]int, least int, cases ...string) {
	t.Helper()
	for _, one := range cases {
		if met[one] < least {
			t.Errorf("the case %q is drawn %d times, want %d", one, met[one], least)
		}
	}
}

// line is a source and a sink.
func line() ground { return reads("a=1 | b=2", "s source 0", "k sink", "s.0 k.0") }

// sums adds records up by their keys.
func sums() ground {
	return reads("x=1 | x=2 | y=3", "a source 0", "f fold 0 ; acc+val", "k sink", "a.0 f.0", "f.0 k.0")
}

// loop lets a record go round at most twice.
func loop() ground {
	return reads("a=1 | b=2", "s source 0", "h head", "t tail 0 ; 2", "k sink", "s.0 h.0", "h.0 t.0", "t.0 h.1", "t.1 k.0")
}

// mixed has edges and sinks in no order of their ports and tasks, sources that share a tape, and one task of each kind that keeps something.
func mixed() ground {
	return reads("a=1 | b=2 / / c=3",
		"l sink", "r source 2", "j join", "s source 0", "w window 3", "k sink", "e tee", "d dedup", "q source 0", "m sink", "u union",
		"e.1 k.0", "s.0 j.1", "j.0 w.0", "e.2 u.1", "w.0 e.0", "r.0 j.0", "q.0 d.0", "u.0 l.0", "e.0 m.0", "d.0 u.0")
}

// mixedShot gives a shot of mixed: its logs differ in what they hold, and so do the outputs of its sinks.
func mixedShot(g ground) api.Shot {
	return g.shot(
		part("3", "l=1 | l=2", "<o=3"), part("1"), part("0; a:[1, 5]; b:[3, 1, 2]", "j=0", "j=1 | j=1"), part("2"),
		part("0; a:[1, 2]", "w=1"), part("2", "", "<p=1 | p=2"), part("0", "e=[]@1@0"), part("0; z:[]", "d=none"),
		part("0"), part("4", "m=4"), part("0", "u=0 | u=0 | u=0", "u=1"))
}

const mixedConfig = `3 / 1 / 0; a:[1, 5]; b:[3, 1, 2] / 2 / 0; a:[1, 2] / 2 / 0 / 0; z:[] / 0 / 4 / 0 #
	/ j=1 | j=1 / w=1 / u=1 / e=[]@1@0 / j=0 / d=none / l=1 | l=2 / m=4 / u=0 | u=0 | u=0 #
	f=1 | f=2 | o=3 / p=1 | p=2 / h=1 | h=2 | h=3 | h=4`

// grounds gives those above.
func grounds() []ground { return []ground{line(), sums(), loop(), mixed()} }

// TestHelp: the tests tell what they mean, and the numbers are those of the chapter.
func TestHelp(t *testing.T) {
	p := part("3; a:[1]", "x=1 | y=2", "", "<z=3")
	if got := shotTold(api.Shot{Id: 7, Sum: 9, Parts: []api.Part{p, {}}}); got != "7 9 {3; a:[1] [x=1 | y=2] [] <z=3>} {0}" {
		t.Errorf("a part is told as %s", got)
	}
	if p := part("1"); len(p.Logs) != 0 || len(p.Pend) != 0 || !equal.Part(p, api.Part{State: api.State{Num: 1}}) {
		t.Errorf("a part without logs is %+v", p)
	}
	got := []api.Errno{api.ErrHealSum, api.ErrHealParts, api.ErrHealState, api.ErrHealOffset, api.ErrHealLogs, api.ErrHealRecord, api.ErrHealPend, api.ErrHealOuts, api.ErrDiskDown,
		api.ErrVaultGone, api.ErrVaultTorn, api.ErrVaultForm, api.ErrVaultChain}
	for k, want := range []int{170, 171, 172, 173, 174, 175, 176, 177, 100, 122, 123, 124, 125} {
		if int(got[k]) != want {
			t.Errorf("error %d has the number %d", want, int(got[k]))
		}
	}
	for e, want := range map[api.Errno]string{api.OK: "ok", api.ErrHealSum: "sum", api.ErrHealPend: "pend", api.ErrHealOuts: "outs", 169: "error 169", 178: "error 178"} {
		if errorTold(e) != want {
			t.Errorf("error %d is told as %s", int(e), errorTold(e))
		}
	}
}
