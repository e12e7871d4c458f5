package runner_test

import (
	"fmt"
	"slices"
	"strconv"
	"strings"
	"testing"

	"eddy/api"
	"eddy/equal"
	"eddy/flow"
	"eddy/pen"
	"eddy/plan"
	"eddy/runner"
)

// A machine is a Runner, or the model of one.
type machine interface {
	Pick(task, port int) int
	Trigger() (int, api.Errno)
	Post() (api.Shot, int)
	Abort() (int, api.Errno)
	Settle(id int, ok bool) api.Errno
	Commit(counts []int)
	Under() (int, []int)
	Config() api.Config
	Trail() []api.Trail
}

// A call is written as its words: 1.0, a pick of task 1 at port 0; trigger; post; abort; settle, an id and yes or no; commit and counts; under; config; trail.
type call struct {
	What       string
	Task, Port int
	Id         int
	Ok         bool
	Counts     []int
}

// An answer is what a call answers: of an error, a number, a shot, tasks, a configuration and a trail those that it has.
type answer struct {
	Err    api.Errno
	Number int
	Shot   api.Shot
	Tasks  []int
	Config api.Config
	Trail  []api.Trail
}

func (c call) of(m machine) answer {
	var a answer
	switch c.What {
	case "pick":
		a.Number = m.Pick(c.Task, c.Port)
	case "trigger":
		a.Number, a.Err = m.Trigger()
	case "post":
		a.Shot, a.Number = m.Post()
	case "abort":
		a.Number, a.Err = m.Abort()
	case "settle":
		a.Err = m.Settle(c.Id, c.Ok)
	case "commit":
		m.Commit(c.Counts)
	case "under":
		a.Number, a.Tasks = m.Under()
	case "config":
		a.Config = m.Config()
	case "trail":
		a.Trail = m.Trail()
	default:
		panic("no call: " + c.What)
	}
	return a
}

func picked(task, port int) call { return call{What: "pick", Task: task, Port: port} }

// called reads a call.
func called(s string) call {
	words := strings.Fields(s)
	if task, port, ok := strings.Cut(words[0], "."); ok {
		return picked(pen.ReadNumber(task), pen.ReadNumber(port))
	}
	c := call{What: words[0]}
	switch c.What {
	case "settle":
		c.Id, c.Ok = pen.ReadNumber(words[1]), words[2] == "yes"
	case "commit":
		for _, n := range words[1:] {
			c.Counts = append(c.Counts, pen.ReadNumber(n))
		}
	}
	return c
}

func (c call) String() string {
	switch c.What {
	case "pick":
		return fmt.Sprint(c.Task, ".", c.Port)
	case "settle":
		return fmt.Sprint("settle ", c.Id, " ", map[bool]string{true: "yes", false: "no"}[c.Ok])
	case "commit":
		return c.What + numbersTold(c.Counts)
	}
	return c.What
}

func numbersTold(all []int) string {
	s := ""
	for _, n := range all {
		s += " " + strconv.Itoa(n)
	}
	return s
}

// didTold writes what a step did.
func didTold(did int) string {
	words := []string{"nothing", "step", "mark", "block", "empty", "held", "trigger", "ack", "ready", "complete", "abort", "down", "up", "halt", "rig"}
	if did < 0 || did >= len(words) {
		return "did " + strconv.Itoa(did)
	}
	return words[did]
}

func errorTold(e api.Errno) string {
	words := []string{"new", "under", "ids", "other", "task", "twice", "none", "not ready"}
	switch at := int(e) - 140; {
	case e == api.OK:
		return "ok"
	case at >= 0 && at < len(words):
		return words[at]
	}
	return "error " + strconv.Itoa(int(e))
}

// shotTold writes a shot: its number, its sum, and of each part the state, the logs in brackets and the pending output in angles; an empty shot is not written.
func shotTold(s api.Shot) string {
	if equal.Shot(s, api.Shot{}) {
		return ""
	}
	text := fmt.Sprint(": ", s.Id, " ", s.Sum)
	for _, p := range s.Parts {
		text += " {" + pen.TellState(p.State)
		for _, l := range p.Logs {
			text += " [" + pen.TellRecords(l) + "]"
		}
		if len(p.Pend) > 0 {
			text += " <" + pen.TellRecords(p.Pend) + ">"
		}
		text += "}"
	}
	return text
}

// told writes the answer of a call, so much of it as the call has.
func (c call) told(a answer) string {
	switch c.What {
	case "pick":
		return didTold(a.Number)
	case "post":
		return didTold(a.Number) + shotTold(a.Shot)
	case "settle":
		return errorTold(a.Err)
	case "commit":
		return "done"
	case "under":
		return strconv.Itoa(a.Number) + numbersTold(a.Tasks)
	case "config":
		return pen.TellConfig(a.Config)
	case "trail":
		return pen.TellTrail(a.Trail)
	}
	if a.Err == api.OK {
		return strconv.Itoa(a.Number)
	} else if a.Number != 0 {
		return errorTold(a.Err) + " and " + strconv.Itoa(a.Number)
	}
	return errorTold(a.Err)
}

func same(a, b answer) bool {
	return a.Err == b.Err && a.Number == b.Number && equal.Shot(a.Shot, b.Shot) && slices.Equal(a.Tasks, b.Tasks) && equal.Config(a.Config, b.Config) && slices.Equal(a.Trail, b.Trail)
}

// A kind is what a runner is made of.
type kind struct {
	plan  api.Plan
	tapes [][]api.Record
	mode  int
	start api.Config
	next  int
	sum   uint32
}

// kindOf gives a plan with tapes, at its initial configuration; the first snapshot is 1, the sum 77.
func kindOf(p api.Plan, tapes string) kind {
	k := kind{plan: p, tapes: pen.ReadLists(tapes), mode: api.Recorded, next: 1, sum: 77}
	f, e := flow.New(p, k.tapes)
	if e != api.OK {
		panic("no plan, or no tapes for it")
	}
	k.start = f.Start()
	return k
}

func (k kind) in(mode int) kind {
	k.mode = mode
	return k
}

func (k kind) from(next int) kind {
	k.next = next
	return k
}

// with gives the kind with another bound of its lanes.
func (k kind) with(room int) kind {
	k.plan.Cap = room
	return k
}

// at gives the kind at another configuration.
func (k kind) at(states, lanes, outs string) kind {
	k.start = pen.ReadConfig(states, lanes, outs)
	return k
}

func (k kind) String() string {
	text, _ := plan.PrintPlan(k.plan)
	return fmt.Sprintf("the plan\n%swith the tapes %s in mode %d from %s on, next %d, sum %d", text, pen.TellLists(k.tapes), k.mode, pen.TellConfig(k.start), k.next, k.sum)
}

func (k kind) open(t *testing.T) *runner.Runner {
	t.Helper()
	r, e := runner.New(k.plan, k.tapes, k.mode, k.start, k.next, k.sum)
	if e != api.OK || r == nil {
		t.Fatalf("P16.1: %v: error %d", k, e)
	}
	return r
}

// flow gives the marker-free system of the kind's plan.
func (k kind) flow(t *testing.T) *flow.Flow {
	t.Helper()
	f, e := flow.New(k.plan, k.tapes)
	if e != api.OK {
		t.Fatalf("P9.1: %v: error %d", k, e)
	}
	return f
}

// spaced writes a text with one blank where there are several.
func spaced(s string) string { return strings.Join(strings.Fields(s), " ") }

// plays makes a runner and plays lines: a call each, and behind an equals sign what it must answer. The model is held against the same lines.
func plays(t *testing.T, promise string, k kind, lines ...string) {
	t.Helper()
	for name, m := range map[string]machine{"": k.open(t), "the model: ": k.model()} {
		for n, line := range lines {
			words, want, asked := strings.Cut(line, " = ")
			c := called(words)
			if got := c.told(c.of(m)); asked && spaced(got) != spaced(want) {
				t.Errorf("%s%s: %v: %s: it answers %s", name, promise, k, strings.Join(lines[:n+1], "; "), got)
				break
			}
		}
	}
}

// inModes plays lines in the modes that are named.
func inModes(t *testing.T, promise, modes string, k kind, lines ...string) {
	t.Helper()
	for _, mode := range strings.Fields(modes) {
		plays(t, promise, k.in(modeOf(mode)), lines...)
	}
}

const allModes, slowModes = "aligned recorded overtaking", "aligned recorded"

func modeOf(name string) int {
	switch name {
	case "aligned":
		return 1
	case "recorded":
		return 2
	case "overtaking":
		return 3
	}
	panic("no mode: " + name)
}

// line is the plan of the chapter's first example.
func line() api.Plan { return pen.ReadPlan("s source 0", "k sink", "s.0 k.0") }

// pair lays two sources' records together.
func pair() api.Plan {
	return pen.ReadPlan("a source 0", "b source 1", "u union", "k sink", "a.0 u.0", "b.0 u.1", "u.0 k.0")
}

// loop lets a record go round at most twice.
func loop() api.Plan {
	return pen.ReadPlan("s source 0", "h head", "t tail 0 ; 2", "k sink", "s.0 h.0", "h.0 t.0", "t.0 h.1", "t.1 k.0")
}

// fork gives each record to three sinks, which stand in no order of their ports.
func fork() api.Plan {
	return pen.ReadPlan("l sink", "s source 0", "k sink", "e tee", "m sink", "e.1 k.0", "s.0 e.0", "e.2 l.0", "e.0 m.0")
}

// TestHelp: the tests read what they write, and the numbers are those of the document.
func TestHelp(t *testing.T) {
	for _, s := range []string{"0.0", "-1.12", "trigger", "post", "abort", "settle 7 yes", "settle 0 no", "commit", "commit 3 -1 0", "under", "config", "trail"} {
		if got := called(s).String(); got != s {
			t.Errorf("the call %q is told as %q", s, got)
		}
	}
	shot := api.Shot{Id: 7, Sum: 99, Parts: []api.Part{{State: api.State{Num: 2}}, {Logs: pen.ReadLists("a=1 | b=2 /"), Pend: pen.ReadRecords("c=3")}}}
	entries := []api.Trail{{Kind: 1, Task: 2, Port: 3}, {Kind: 2, Task: 2, Port: 3, Id: 4}, {Kind: 3, Task: 2, Id: 4}, {Kind: 4, Task: 2, Id: 4}, {Kind: 5, Id: 4}, {Kind: 6, Id: 4}, {Kind: 8, Id: 4}}
	for _, x := range []struct {
		call, want string
		answer
	}{
		{"0.0", "nothing", answer{}}, {"0.0", "halt", answer{Number: 13}}, {"0.0", "did -1", answer{Number: -1}},
		{"trigger", "7", answer{Number: 7}}, {"trigger", "ids", answer{Err: api.ErrPostIds}}, {"abort", "none and 7", answer{Number: 7, Err: api.ErrPostNone}},
		{"post", "empty", answer{Number: 4}}, {"post", "ready: 7 99 {2} {0 [a=1 | b=2] [] <c=3>}", answer{Number: 8, Shot: shot}}, {"post", "ack: 0 1", answer{Number: 7, Shot: api.Shot{Sum: 1}}},
		{"under", "7 0 2", answer{Number: 7, Tasks: []int{0, 2}}}, {"settle 1 no", "not ready", answer{Err: api.ErrPostReady}}, {"settle 1 no", "error 131", answer{Err: 131}},
		{"config", "1 / 0 # a=1 # b=2 | c=3", answer{Config: pen.ReadConfig("1 / 0", "a=1", "b=2 | c=3")}},
		{"trail", "step 2.3, mark 2.3 4, copy 2 4, part 2 4, trigger 4, ready 4, abort 4", answer{Trail: entries}},
		{"trail", "{1 0 0 5}, {5 0 2 1}, {9 1 2 3}", answer{Trail: []api.Trail{{Kind: 1, Id: 5}, {Kind: 5, Port: 2, Id: 1}, {Kind: 9, Task: 1, Port: 2, Id: 3}}}},
	} {
		if got := called(x.call).told(x.answer); got != x.want {
			t.Errorf("the answer %+v of %s is told as %q, want %q", x.answer, x.call, got, x.want)
		}
	}
}

func TestNumbersAreTheChapters(t *testing.T) {
	got := []int{int(api.ErrRunMode), int(api.ErrRunNext), api.MaxId, api.Aligned, api.Recorded, api.Overtaking,
		api.DidNothing, api.DidStep, api.DidMark, api.DidBlock, api.DidEmpty, api.DidHeld, api.DidAck, api.DidReady, api.DidHalt}
	for k, want := range []int{160, 161, 9999, 1, 2, 3, 0, 1, 2, 3, 4, 5, 7, 8, 13} {
		if got[k] != want {
			t.Errorf("number %d is %d, want %d", k, got[k], want)
		}
	}
}
