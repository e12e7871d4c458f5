package engine_test

import (
	"errors"
	"fmt"
	"slices"
	"strconv"
	"strings"
	"testing"

	"eddy/api"
	"eddy/engine"
	"eddy/equal"
	"eddy/flow"
	"eddy/pen"
	"eddy/plan"
	"eddy/shape"
)

// A machine is an Engine, or the model of one.
type machine interface {
	Do(op api.Op) int
	Status() api.Status
	Config() api.Config
	Committed() [][]api.Record
	Shot(id int) (api.Shot, error)
	Trail() []api.Trail
	Files() []api.File
}

// A ground is what an engine is made of.
type ground struct {
	text  string
	tapes []string
	mode  int
	files []api.File
}

// reads gives the ground of a plan, told line by line as pen reads it, with a bound of its lanes, and of tapes.
func reads(room int, tapes string, lines ...string) ground {
	p := pen.ReadPlan(lines...)
	p.Cap = room
	return on(p, pen.ReadLists(tapes))
}

// on gives the ground of a plan and tapes, in mode Recorded over an empty disk. A test that has none is at fault itself: it panics.
func on(p api.Plan, tapes [][]api.Record) ground {
	g := ground{mode: api.Recorded}
	var err error
	if g.text, err = plan.PrintPlan(p); err != nil {
		panic("no plan's text")
	}
	for _, tape := range tapes {
		text, err := plan.PrintTape(tape)
		if err != nil {
			panic("no tape's text")
		}
		g.tapes = append(g.tapes, text)
	}
	return g
}

func (g ground) in(mode int) ground {
	g.mode = mode
	return g
}

func (g ground) over(files ...api.File) ground {
	g.files = files
	return g
}

func (g ground) with(tapes ...string) ground {
	g.tapes = tapes
	return g
}

func (g ground) String() string {
	return fmt.Sprintf("the plan\n%swith the tapes %q in mode %d over %s", g.text, g.tapes, g.mode, filesTold(g.files))
}

// parts gives the plan, its shape, the tapes and the marker-free system.
func (g ground) parts() (api.Plan, api.Shape, [][]api.Record, *flow.Flow) {
	p, err := plan.ParsePlan(g.text)
	sh, _, e := shape.Build(p)
	if err != nil || e != api.OK {
		panic(fmt.Sprint("no plan: ", err, e))
	}
	var tapes [][]api.Record
	for _, text := range g.tapes {
		tape, err := plan.ParseTape(text)
		if err != nil {
			panic("no tape")
		}
		tapes = append(tapes, tape)
	}
	f, e := flow.New(p, tapes)
	if e != api.OK {
		panic("no tapes for the plan")
	}
	return p, sh, tapes, f
}

func (g ground) open(t *testing.T) *engine.Engine {
	t.Helper()
	e, err := engine.New(g.text, g.tapes, g.mode, g.files)
	if err != nil || e == nil {
		t.Fatalf("P19.1: %v: New answers %v", g, err)
	}
	return e
}

// line is the chapter's plan.
func line() ground { return reads(2, "a=1 | b=2", "s source 0", "k sink", "s.0 k.0") }

// long is line with more records.
func long() ground {
	return reads(2, "a=1 | b=2 | c=3 | d=4 | e=5 | f=6", "s source 0", "k sink", "s.0 k.0")
}

// loop is the chapter's plan.
func loop() ground {
	return reads(1, "a=1", "s source 0", "h head", "t tail 0 ; 2", "k sink", "s.0 h.0", "h.0 t.0", "t.0 h.1", "t.1 k.0")
}

// fork gives each record to three sinks, which stand in no order of their ports.
func fork() ground {
	return reads(2, "a=1 | b=2 | c=3 | d=4", "l sink", "s source 0", "k sink", "e tee", "m sink", "e.1 k.0", "s.0 e.0", "e.2 l.0", "e.0 m.0")
}

// pair lays two sources' records together, and adds them up by their keys.
func pair() ground {
	return reads(1, "a=1 | b=2 | a=3 / a=7 | c=8", "a source 0", "b source 1", "u union", "f fold 0 ; acc+val", "k sink", "a.0 u.0", "b.0 u.1", "u.0 f.0", "f.0 k.0")
}

func grounds() []ground { return []ground{line(), long(), loop(), fork(), pair()} }

// opsOf reads steps as a script's text has them, with ; between.
func opsOf(steps string) []api.Op {
	ops, err := plan.ParseScript(strings.ReplaceAll(steps, ";", "\n"))
	if err != nil {
		panic("no script: " + steps)
	}
	return ops
}

// opTold writes a step; one that no script has by its numbers.
func opTold(op api.Op) string {
	if text, err := plan.PrintScript([]api.Op{op}); err == nil {
		return strings.TrimSuffix(text, "\n")
	}
	return fmt.Sprint(op)
}

func opsTold(ops []api.Op) string {
	var all []string
	for _, op := range ops {
		all = append(all, opTold(op))
	}
	return strings.Join(all, "; ")
}

func numbersTold(all []int) string { return strings.Trim(fmt.Sprint(all), "[]") }

// statusTold writes a status: up or down, halted, and the numbers that aren't 0.
func statusTold(s api.Status) string {
	words := []string{map[bool]string{true: "up", false: "down"}[s.Up]}
	if s.Halted {
		words = append(words, "halted")
	}
	for _, x := range []struct {
		name   string
		number int
	}{{"under", s.Under}, {"last", s.Last}, {"next", s.Next}, {"aborts", s.Aborts}} {
		if x.number != 0 {
			words = append(words, x.name+" "+strconv.Itoa(x.number))
		}
	}
	return strings.Join(words, " ")
}

// filesTold writes files: their names, and of those that aren't wholly sure how many bytes are, and how many there are.
func filesTold(files []api.File) string {
	var all []string
	for _, f := range files {
		told := f.Name
		if f.Synced != len(f.Data) {
			told += fmt.Sprint(" ", f.Synced, "/", len(f.Data))
		}
		all = append(all, told)
	}
	return strings.Join(all, ", ")
}

func sameFiles(a, b []api.File) bool {
	return slices.EqualFunc(a, b, func(f, g api.File) bool {
		return f.Name == g.Name && string(f.Data) == string(g.Data) && f.Synced == g.Synced
	})
}

// errorTold writes an error with all that it tells: an Errno itself by its number, a Fault by its place too, a Lost by its number and name.
func errorTold(err error) string {
	switch x := err.(type) {
	case nil:
		return "ok"
	case api.Errno:
		return "error " + strconv.Itoa(int(x))
	case *api.Fault:
		return fmt.Sprint("fault ", x.Line, " ", x.At, " ", errorTold(x.Err))
	case *api.Lost:
		return fmt.Sprintf("lost %d %q %s", x.Id, x.Name, errorTold(x.Err))
	}
	return "another error: " + err.Error()
}

// shotTold writes a shot: its number, and of each part the state, the logs in brackets and the pending output in angles.
func shotTold(s api.Shot) string {
	text := strconv.Itoa(s.Id)
	for _, p := range s.Parts {
		text += " {" + pen.TellState(p.State)
		for _, l := range p.Logs {
			text += " [" + pen.TellRecords(l) + "]"
		}
		if len(p.Pend) > 0 {
			text += " <" + pen.TellRecords(p.Pend) + ">"
		}
		text += "}"
	}
	return text
}

// asked writes what a machine answers to a question: status, config, outs (Committed), trail, files, or shot and a number.
func asked(m machine, question string) string {
	word, number, _ := strings.Cut(question, " ")
	switch word {
	case "status":
		return statusTold(m.Status())
	case "config":
		return pen.TellConfig(m.Config())
	case "outs":
		return pen.TellLists(m.Committed())
	case "trail":
		return pen.TellTrail(m.Trail())
	case "files":
		return filesTold(m.Files())
	case "shot":
		s, err := m.Shot(pen.ReadNumber(number))
		if err == nil {
			return shotTold(s)
		}
		if !equal.Shot(s, api.Shot{}) {
			return errorTold(err) + " and " + shotTold(s)
		}
		return errorTold(err)
	}
	panic("no question: " + question)
}

// spaced writes a text with one blank where there are several.
func spaced(s string) string { return strings.Join(strings.Fields(s), " ") }

// does lets a machine do steps, and writes what they did.
func does(m machine, steps string) string {
	var all []int
	for _, op := range opsOf(steps) {
		all = append(all, m.Do(op))
	}
	return numbersTold(all)
}

// says lets a machine do the steps of a line, or asks it; and writes what it answers, and what it must answer. The steps stand ahead of an arrow, a question ahead of an equals sign.
func says(m machine, line string) (got, want string) {
	if steps, answers, ok := strings.Cut(line, " -> "); ok {
		return does(m, steps), spaced(answers)
	}
	question, want, ok := strings.Cut(line, " =")
	if !ok {
		does(m, line)
		return "", ""
	}
	return spaced(asked(m, question)), spaced(want)
}

// plays makes an engine and lets it do, or asks it, what stands in lines. The model is held against the same lines.
func plays(t *testing.T, promise string, g ground, lines ...string) *engine.Engine {
	t.Helper()
	e, m := g.open(t), g.model(t)
	for name, one := range map[string]machine{"": e, "the model: ": m} {
		for n, line := range lines {
			if got, want := says(one, line); got != want {
				t.Errorf("%s%s: %v: %s: it answers %s", name, promise, g, strings.Join(lines[:n+1], "\n"), got)
				break
			}
		}
	}
	return e
}

// inModes plays lines in all modes.
func inModes(t *testing.T, promise string, g ground, lines ...string) {
	t.Helper()
	for mode := 1; mode <= 3; mode++ {
		plays(t, promise, g.in(mode), lines...)
	}
}

// difference tells where a machine answers another thing than the model to any question.
func difference(m, want machine) string {
	for _, q := range []string{"status", "config", "outs", "trail"} {
		if a, b := asked(m, q), asked(want, q); a != b {
			return fmt.Sprintf("%s is %s, want %s", q, a, b)
		}
	}
	if a, b := m.Files(), want.Files(); !sameFiles(a, b) {
		return fmt.Sprintf("the files are %s, want %s", filesTold(a), filesTold(b))
	}
	last := want.Status().Last
	for _, id := range []int{last - 1, last, last + 1} {
		q := fmt.Sprint("shot ", id)
		if a, b := asked(m, q), asked(want, q); a != b {
			return fmt.Sprintf("%s is %s, want %s", q, a, b)
		}
	}
	return ""
}

// wantCases fails the test where a case was met too seldom.
func wantCases(t *testing.T, met map[string]int, least int, cases ...string) {
	t.Helper()
	for _, one := range cases {
		if met[one] < least {
			t.Errorf("the case %q is met %d times, want %d", one, met[one], least)
		}
	}
}

// TestHelp: the tests tell what they mean.
func TestHelp(t *testing.T) {
	for _, x := range []struct{ got, want string }{
		{opsTold(opsOf("pick 0 -1; trigger;fail 2 after 3; recover arm 0 4 5")), "pick 0 -1; trigger; fail 2 after 3; recover arm 0 4 5"},
		{opTold(api.Op{Kind: 99, A: 1}), "{99 1 0 []}"},
		{statusTold(api.Status{}), "down"}, {statusTold(api.Status{Up: true, Halted: true, Under: 1, Last: 2, Next: 3, Aborts: 4}), "up halted under 1 last 2 next 3 aborts 4"},
		{filesTold([]api.File{{Name: "a", Data: []byte("xy"), Synced: 2}, {Name: "b", Data: []byte("x")}}), "a, b 0/1"},
		{errorTold(nil), "ok"}, {errorTold(api.ErrEngMode), "error 190"}, {errorTold(&api.Fault{Line: 1, At: 2, Err: api.ErrPlanWord}), "fault 1 2 error 61"},
		{errorTold(&api.Lost{Id: 3, Name: "n", Err: api.ErrVaultGone}), `lost 3 "n" error 122`}, {errorTold(errors.New("x")), "another error: x"},
		{shotTold(api.Shot{Id: 7, Parts: []api.Part{{State: api.State{Num: 2}}, {Logs: pen.ReadLists("a=1 | b=2 /"), Pend: pen.ReadRecords("c=3")}}}), "7 {2} {0 [a=1 | b=2] [] <c=3>}"},
		{line().text, "plan 2\ntask s source 0\ntask k sink\nedge s.0 k.0\n"}, {line().tapes[0], "\"a\" 1\n\"b\" 2\n"},
	} {
		if x.got != x.want {
			t.Errorf("%q is told, want %q", x.got, x.want)
		}
	}
	for k, g := range grounds() {
		if _, sh, _, _ := g.parts(); len(sh.Sinks) == 0 {
			t.Errorf("ground %d has no sink", k)
		}
	}
}

func TestNumbersAreTheDocuments(t *testing.T) {
	got := []int{int(api.ErrEngMode), int(api.ErrEngTapes), api.MaxTapes, api.MaxId, api.KeepShots, api.Aligned, api.Recorded, api.Overtaking,
		api.OpPick, api.OpTrigger, api.OpPost, api.OpAbort, api.OpCrash, api.OpArm, api.OpFail, api.OpSpoil, api.OpRecover,
		api.DidNothing, api.DidStep, api.DidMark, api.DidBlock, api.DidEmpty, api.DidHeld, api.DidTrigger, api.DidAck, api.DidReady, api.DidComplete, api.DidAbort, api.DidDown, api.DidUp, api.DidHalt, api.DidRig,
		api.TrailComplete, api.TrailAbort, api.TrailCommit, api.TrailDown, api.TrailUp}
	for k, want := range []int{190, 191, 4, 9999, 2, 1, 2, 3, 1, 2, 3, 4, 5, 6, 7, 8, 9, 0, 1, 2, 3, 4, 5, 6, 7, 8, 9, 10, 11, 12, 13, 14, 7, 8, 9, 10, 11} {
		if got[k] != want {
			t.Errorf("number %d is %d, want %d", k, got[k], want)
		}
	}
}
