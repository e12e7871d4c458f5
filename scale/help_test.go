package scale_test

import (
	"fmt"
	"slices"
	"strconv"
	"strings"
	"testing"

	"eddy/api"
	"eddy/engine"
	"eddy/flow"
	"eddy/heal"
	"eddy/pen"
	"eddy/plan"
	"eddy/scale"
	"eddy/shape"
)

// A ground is a plan with tapes, a task of it that is spread, and bounds.
type ground struct {
	plan   api.Plan
	tapes  [][]api.Record
	task   int
	bounds []string
}

// reads gives the ground of a plan, told line by line as pen reads it, of tapes, of the name of a task, and of bounds with blanks between.
func reads(tapes, task, bounds string, lines ...string) ground {
	g := ground{plan: pen.ReadPlan(lines...), tapes: pen.ReadLists(tapes), bounds: strings.Fields(bounds)}
	g.task = slices.IndexFunc(g.plan.Tasks, func(t api.Task) bool { return t.Name == task })
	return g
}

// by gives the ground with other bounds.
func (g ground) by(bounds ...string) ground {
	g.bounds = bounds
	return g
}

// at gives the ground with another task.
func (g ground) at(task int) ground {
	g.task = task
	return g
}

func (g ground) with(tapes [][]api.Record) ground {
	g.tapes = tapes
	return g
}

func (g ground) String() string {
	return fmt.Sprintf("the plan\n%swith the tapes %s, its task %d spread by %q", planTold(g.plan), pen.TellLists(g.tapes), g.task, g.bounds)
}

// sums is the chapter's plan.
func sums() ground {
	return reads("a=1 | m=5 | z=2 | a=10 | m=4", "f", "g", "s source 0", "f fold 0 ; acc+val", "k sink", "s.0 f.0", "f.0 k.0")
}

// pairs gives windows of two, so that every second record of a key is sent.
func pairs() ground {
	return reads("a=1 | m=5 | a=2 | z=3 | m=6 | m=7", "w", "g", "k sink", "w window 2", "s source 0", "w.0 k.0", "s.0 w.0")
}

// firsts gives each key once.
func firsts() ground {
	return reads("a=1 | m=5 | a=2 | z=3 | m=6", "d", "b n", "s source 0", "k sink", "d dedup", "s.0 d.0", "d.0 k.0")
}

// loop has its keyed task between a head and a tail.
func loop() ground {
	return reads("a=1 | m=5", "f", "g", "s source 0", "h head", "f fold 0 ; acc+val", "t tail 0 ; 2", "k sink", "f.0 t.0", "t.1 k.0", "t.0 h.1", "s.0 h.0", "h.0 f.0")
}

// fork has two sinks, one of which stands ahead of the task, and two keyed tasks.
func fork() ground {
	return reads("a=1 | m=5 | z=2 / q=7", "f", "g p", "l sink", "s source 0", "e tee", "d dedup", "f fold none ; val", "k sink", "e.1 f.0", "d.0 l.0", "e.0 d.0", "s.0 e.0", "f.0 k.0")
}

func grounds() []ground { return []ground{sums(), pairs(), firsts(), loop(), fork()} }

func (g ground) flow() *flow.Flow {
	f, e := flow.New(g.plan, g.tapes)
	if e != api.OK {
		panic(fmt.Sprint("no flow: error ", int(e)))
	}
	return f
}

func (g ground) shape() api.Shape {
	sh, _, e := shape.Build(g.plan)
	if e != api.OK {
		panic(fmt.Sprint("no plan: error ", int(e)))
	}
	return sh
}

// wide gives the ground of the spread plan; its task is the same one, which is a copy there.
func (g ground) wide() ground {
	q, e := scale.Spread(g.plan, g.task, g.bounds...)
	if e != api.OK {
		panic(fmt.Sprint("no spread plan: error ", int(e)))
	}
	return ground{plan: q, tapes: g.tapes, task: g.task, bounds: g.bounds}
}

// texts gives the plan's and the tapes' texts.
func (g ground) texts() (string, []string) {
	text, err := plan.PrintPlan(g.plan)
	var tapes []string
	for _, l := range g.tapes {
		tape, e := plan.PrintTape(l)
		if e != nil {
			err = e
		}
		tapes = append(tapes, tape)
	}
	if err != nil {
		panic("no texts: " + err.Error())
	}
	return text, tapes
}

// open gives an engine of the ground over files.
func (g ground) open(t *testing.T, mode int, files []api.File) *engine.Engine {
	t.Helper()
	text, tapes := g.texts()
	e, err := engine.New(text, tapes, mode, files)
	if err != nil || e == nil {
		t.Fatalf("P19.1: %v: New answers %v", g, err)
	}
	return e
}

// files asks Files for the ground.
func (g ground) files(files []api.File) (string, []api.File, error) {
	text, tapes := g.texts()
	return scale.Files(text, tapes, g.plan.Tasks[g.task].Name, files, g.bounds...)
}

// shot gives a shot with the ground's sum.
func (g ground) shot(parts ...api.Part) api.Shot {
	return api.Shot{Id: 4, Sum: heal.Sum(g.plan, g.tapes), Parts: parts}
}

// part reads a part: its state, and behind it its logs; a list that begins with < is the pending output.
func part(state string, lists ...string) api.Part {
	p := api.Part{State: pen.ReadState(state)}
	for _, l := range lists {
		if pend, is := strings.CutPrefix(l, "<"); is {
			p.Pend = pen.ReadRecords(pend)
		} else {
			p.Logs = append(p.Logs, pen.ReadRecords(l))
		}
	}
	return p
}

// configOf reads a configuration: the states, the lanes and the outputs, with a # between.
func configOf(text string) api.Config {
	parts := strings.Split(text, "#")
	return pen.ReadConfig(strings.TrimSpace(parts[0]), parts[1], parts[2])
}

// planTold writes a plan: as a text, if it has one.
func planTold(p api.Plan) string {
	if text, err := plan.PrintPlan(p); err == nil {
		return text
	}
	return fmt.Sprintf("%q %v\n", fmt.Sprint(p.Tasks), p.Edges)
}

// spreadTold writes a plan with all its fields, told apart or not by a text.
func spreadTold(p api.Plan) string {
	text := fmt.Sprint("cap ", p.Cap)
	for _, t := range p.Tasks {
		text += fmt.Sprintf(" / %s %d %d %q", t.Name, t.Kind, t.Num, t.Exprs)
	}
	for _, e := range p.Edges {
		text += fmt.Sprintf(" / %d.%d %d.%d", e.From, e.Out, e.To, e.In)
	}
	return text
}

// shotTold writes a shot: its number, its sum, and of each part the state, the logs in brackets and the pending output in angles.
func shotTold(s api.Shot) string {
	text := fmt.Sprint(s.Id, " ", s.Sum)
	for _, p := range s.Parts {
		text += " {" + pen.TellState(p.State)
		for _, l := range p.Logs {
			text += " [" + pen.TellRecords(l) + "]"
		}
		if len(p.Pend) > 0 {
			text += " <" + pen.TellRecords(p.Pend) + ">"
		}
		text += "}"
	}
	return text
}

// filesTold writes files: their names, and of those that aren't wholly sure how many bytes are, and how many there are.
func filesTold(files []api.File) string {
	var all []string
	for _, f := range files {
		told := f.Name
		if f.Synced != len(f.Data) {
			told += fmt.Sprint(" ", f.Synced, "/", len(f.Data))
		}
		all = append(all, told)
	}
	return strings.Join(all, ", ")
}

// bytesTold writes files with all their bytes.
func bytesTold(files []api.File) string {
	text := ""
	for _, f := range files {
		text += fmt.Sprintf("%s %d %x\n", f.Name, f.Synced, f.Data)
	}
	return text
}

// errorTold writes an error with all that it tells: an Errno itself by its number, a Fault by its place too, a Lost by its number and name.
func errorTold(err error) string {
	switch x := err.(type) {
	case nil:
		return "ok"
	case api.Errno:
		return "error " + strconv.Itoa(int(x))
	case *api.Fault:
		return fmt.Sprint("fault ", x.Line, " ", x.At, " ", errorTold(x.Err))
	case *api.Lost:
		return fmt.Sprintf("lost %d %q %s", x.Id, x.Name, errorTold(x.Err))
	}
	return "another error: " + err.Error()
}

// told writes what a call answers: what it gives, or its error; and both, if there is something beside an error.
func told(what string, e api.Errno, zero string) string {
	switch {
	case e == api.OK:
		return what
	case what == zero:
		return errorTold(e)
	}
	return errorTold(e) + " and " + what
}

// The calls of a layer, or of the model of it, each with its answer written.
type calls struct {
	name   string
	spread func(p api.Plan, task int, bounds ...string) (api.Plan, api.Errno)
	move   func(p api.Plan, tapes [][]api.Record, task int, c api.Config, bounds ...string) (api.Config, api.Errno)
	follow func(p api.Plan, tapes [][]api.Record, task int, c api.Config, l []api.Event, bounds ...string) ([]api.Event, api.Errno)
	shot   func(p api.Plan, tapes [][]api.Record, task int, s api.Shot, bounds ...string) (api.Shot, api.Errno)
	files  func(plan string, tapes []string, name string, files []api.File, bounds ...string) (string, []api.File, error)
}

func layer() calls {
	return calls{"", scale.Spread, scale.Move, scale.Follow, scale.Shot, scale.Files}
}

func model() calls {
	return calls{"the model: ", modelSpread, modelMove, modelFollow, modelShot, modelFiles}
}

func both() []calls { return []calls{layer(), model()} }

func (x calls) spreads(g ground) string {
	p, e := x.spread(g.plan, g.task, g.bounds...)
	return told(spreadTold(p), e, spreadTold(api.Plan{}))
}

func (x calls) moves(g ground, c api.Config) string {
	m, e := x.move(g.plan, g.tapes, g.task, c, g.bounds...)
	return told(pen.TellConfig(m), e, pen.TellConfig(api.Config{}))
}

func (x calls) follows(g ground, c api.Config, l []api.Event) string {
	m, e := x.follow(g.plan, g.tapes, g.task, c, l, g.bounds...)
	return told(pen.TellEvents(m), e, "")
}

func (x calls) shoots(g ground, s api.Shot) string {
	m, e := x.shot(g.plan, g.tapes, g.task, s, g.bounds...)
	return told(shotTold(m), e, shotTold(api.Shot{}))
}

// lays writes what Files answers: the text, and the files with their bytes.
func (x calls) lays(text string, tapes []string, name string, files []api.File, bounds []string) string {
	wide, moved, err := x.files(text, tapes, name, files, bounds...)
	if err == nil {
		return wide + bytesTold(moved)
	}
	if wide != "" || len(moved) > 0 {
		return errorTold(err) + " and " + wide + filesTold(moved)
	}
	return errorTold(err)
}

// spaced writes a text with one blank where there are several.
func spaced(s string) string { return strings.Join(strings.Fields(s), " ") }

// same fails the test where the layer, or the model of it, answers another thing than is wanted.
func same(t *testing.T, promise string, what any, want string, ask func(x calls) string) {
	t.Helper()
	for _, x := range both() {
		if got := ask(x); spaced(got) != spaced(want) {
			t.Errorf("%s%s: %v: the answer is\n%s, want\n%s", x.name, promise, what, got, want)
		}
	}
}

func (g ground) wantSpread(t *testing.T, promise, want string) {
	t.Helper()
	same(t, promise, g, want, func(x calls) string { return x.spreads(g) })
}

func (g ground) wantMove(t *testing.T, promise string, c api.Config, want string) {
	t.Helper()
	same(t, promise, fmt.Sprint(g, ", of ", pen.TellConfig(c)), want, func(x calls) string { return x.moves(g, c) })
}

func (g ground) wantFollow(t *testing.T, promise string, c api.Config, l []api.Event, want string) {
	t.Helper()
	same(t, promise, fmt.Sprint(g, ", from ", pen.TellConfig(c), ", of ", pen.TellEvents(l)), want, func(x calls) string { return x.follows(g, c, l) })
}

func (g ground) wantShot(t *testing.T, promise string, s api.Shot, want string) {
	t.Helper()
	same(t, promise, fmt.Sprint(g, ", of ", shotTold(s)), want, func(x calls) string { return x.shoots(g, s) })
}

// wantCases fails the test where a case was met too seldom.
func wantCases(t *testing.T, met map[string]int, least int, cases ...string) {
	t.Helper()
	for _, one := range cases {
		if met[one] < least {
			t.Errorf("the case %q is met %d times, want %d", one, met[one], least)
		}
	}
}

// TestHelp: the tests tell what they mean.
func TestHelp(t *testing.T) {
	for k, g := range grounds() {
		if g.shape(); g.task < 0 || g.flow() == nil {
			t.Errorf("ground %d has no task", k)
		}
	}
	for _, x := range []struct{ got, want string }{
		{spreadTold(api.Plan{Cap: 3, Tasks: []api.Task{{Name: "a", Kind: 4, Num: 5, Exprs: []string{"b", "c"}}}, Edges: []api.Edge{{From: 1, Out: 2, To: 3, In: 4}}}), `cap 3 / a 4 5 ["b" "c"] / 1.2 3.4`},
		{shotTold(api.Shot{Id: 7, Sum: 9, Parts: []api.Part{{State: api.State{Num: 2}}, {Logs: pen.ReadLists("a=1 | b=2 /"), Pend: pen.ReadRecords("c=3")}}}), "7 9 {2} {0 [a=1 | b=2] [] <c=3>}"},
		{filesTold([]api.File{{Name: "a", Data: []byte("xy"), Synced: 2}, {Name: "b", Data: []byte("x")}}), "a, b 0/1"},
		{bytesTold([]api.File{{Name: "a", Data: []byte("xy"), Synced: 1}, {Name: "b"}}), "a 1 7879\nb 0 \n"},
		{errorTold(nil), "ok"}, {errorTold(api.ErrScaleTask), "error 200"}, {errorTold(&api.Fault{Line: 1, At: 2, Err: api.ErrPlanWord}), "fault 1 2 error 61"},
		{errorTold(&api.Lost{Id: 3, Name: "n", Err: api.ErrVaultGone}), `lost 3 "n" error 122`},
		{told("a  b", api.OK, ""), "a  b"}, {spaced(" a  b\n"), "a b"}, {told("a", api.ErrScaleTask, "a"), "error 200"}, {told("b", api.ErrScaleTask, "a"), "error 200 and b"},
	} {
		if x.got != x.want {
			t.Errorf("%q is told, want %q", x.got, x.want)
		}
	}
}

func TestNumbersAreTheChapters(t *testing.T) {
	got := []int{int(api.ErrScaleTask), int(api.ErrScaleBounds), api.MaxKey, api.MaxExpr, api.MaxCells, api.MaxTasks, api.MaxEdges, api.MaxPorts}
	for k, want := range []int{200, 201, 12, 100, 64, 12, 24, 4} {
		if got[k] != want {
			t.Errorf("number %d is %d, want %d", k, got[k], want)
		}
	}
}
