package witness_test

import (
	"fmt"
	"strconv"
	"strings"
	"testing"

	"eddy/api"
	"eddy/flow"
	"eddy/pen"
	"eddy/plan"
	"eddy/shape"
	"eddy/witness"
)

// A reading is package witness, or the model of it.
type reading struct {
	name  string
	split func(l []api.Trail, id, tasks int) ([]api.Event, []api.Event, api.Errno)
	line  func(l []api.Trail, tasks int) ([]api.Event, api.Errno)
	path  func(l []api.Trail, id, tasks int) ([]int, api.Errno)
	prove func(f *flow.Flow, start, shot, end api.Config, l []api.Trail, id, tasks int) api.Errno
}

func program() reading {
	return reading{"", witness.Split, witness.Line, witness.Path, witness.Prove}
}

func model() reading {
	return reading{"the model: ", modelSplit, modelLine, modelPath, modelProve}
}

// errorTold writes an error of this layer as a word.
func errorTold(e api.Errno) string {
	words := []string{"no shot", "no trail", "no run", "no cut", "no end"}
	switch at := int(e) - 180; {
	case e == api.OK:
		return "ok"
	case at >= 0 && at < len(words):
		return words[at]
	}
	return fmt.Sprint("error ", int(e))
}

// told writes an answer: the error, and beside it what there is, or what there is alone.
func told(e api.Errno, lists ...string) string {
	text := strings.Join(lists, " | ")
	switch {
	case e == api.OK:
		return text
	case strings.Trim(text, " |") != "":
		return errorTold(e) + " and " + text
	}
	return errorTold(e)
}

func placesTold(all []int) string {
	var words []string
	for _, n := range all {
		words = append(words, strconv.Itoa(n))
	}
	return strings.Join(words, " ")
}

// A question is a call of Split, Line or Path.
type question struct {
	what string
	id   int
}

// asked reads a question: split and an id, path and an id, or line.
func asked(text string) question {
	words := strings.Fields(text)
	if words[0] == "line" {
		return question{what: "line"}
	}
	return question{words[0], pen.ReadNumber(words[1])}
}

func (q question) String() string {
	if q.what == "line" {
		return q.what
	}
	return fmt.Sprint(q.what, " ", q.id)
}

// of asks the question of a trail, and writes the answer: the lists of Split with a | between.
func (q question) of(r reading, l []api.Trail, tasks int) string {
	switch q.what {
	case "split":
		before, after, e := r.split(l, q.id, tasks)
		return told(e, pen.TellEvents(before), pen.TellEvents(after))
	case "line":
		line, e := r.line(l, tasks)
		return told(e, pen.TellEvents(line))
	case "path":
		places, e := r.path(l, q.id, tasks)
		return told(e, placesTold(places))
	}
	panic("no question: " + q.what)
}

// spaced writes a text with one blank where there are several.
func spaced(s string) string { return strings.Join(strings.Fields(s), " ") }

// wants asks questions of a trail, and fails the test where package witness, or the model of it, answers another thing than stands behind the equals sign.
func wants(t *testing.T, promise, trail string, tasks int, lines ...string) {
	t.Helper()
	for _, line := range lines {
		text, want, _ := strings.Cut(line, "=")
		q := asked(text)
		for _, r := range []reading{program(), model()} {
			if got := q.of(r, pen.ReadTrail(trail), tasks); spaced(got) != spaced(want) {
				t.Errorf("%s%s: %v of %s with %d tasks answers %q, want %q", r.name, promise, q, trail, tasks, got, spaced(want))
			}
		}
	}
}

// sameAsModel asks a question of a trail, and tells where package witness answers another thing than the model.
func sameAsModel(q question, l []api.Trail, tasks int) (string, string) {
	got, want := q.of(program(), l, tasks), q.of(model(), l, tasks)
	if got != want {
		return got, fmt.Sprintf("%v of %s with %d tasks answers %q, want %q", q, pen.TellTrail(l), tasks, got, want)
	}
	return got, ""
}

// A ground is a valid plan with its shape, tapes for it, and its marker-free system.
type ground struct {
	plan  api.Plan
	sh    api.Shape
	tapes [][]api.Record
	*flow.Flow
}

// on gives the ground of a plan and tapes. A test that has none is at fault itself: it panics.
func on(p api.Plan, tapes [][]api.Record) ground {
	sh, _, e := shape.Build(p)
	if e != api.OK {
		panic(fmt.Sprint("no plan: error ", int(e)))
	}
	f, e := flow.New(p, tapes)
	if e != api.OK {
		panic(fmt.Sprint("no tapes: error ", int(e)))
	}
	return ground{p, sh, tapes, f}
}

// reads gives the ground of tapes and of a plan, told line by line.
func reads(tapes string, lines ...string) ground {
	return on(pen.ReadPlan(lines...), pen.ReadLists(tapes))
}

func (g ground) String() string {
	text, _ := plan.PrintPlan(g.plan)
	return fmt.Sprintf("the plan\n%swith the tapes %s", text, pen.TellLists(g.tapes))
}

func (g ground) tasks() int { return len(g.plan.Tasks) }

// line is a source and a sink.
func line() ground { return reads("a=1 | b=2", "s source 0", "k sink", "s.0 k.0") }

// pair lays two sources' records together, and adds them up by their keys.
func pair() ground {
	return reads("a=1 | b=2 | a=3 / a=7 | c=8", "a source 0", "b source 1", "u union", "f fold 0 ; acc+val", "k sink", "a.0 u.0", "b.0 u.1", "u.0 f.0", "f.0 k.0")
}

// loop lets a record go round at most twice.
func loop() ground {
	return reads("a=1 | b=2", "s source 0", "h head", "t tail 0 ; 2", "k sink", "s.0 h.0", "h.0 t.0", "t.0 h.1", "t.1 k.0")
}

// fork gives each record to three sinks, which stand in no order of their ports.
func fork() ground {
	return reads("a=1 | b=2 | c=3", "l sink", "s source 0", "k sink", "e tee", "m sink", "e.1 k.0", "s.0 e.0", "e.2 l.0", "e.0 m.0")
}

func grounds() []ground { return []ground{line(), pair(), loop(), fork()} }

// wantCases fails the test where a case was met too seldom.
func wantCases(t *testing.T, met map[string]int, least int, cases ...string) {
	t.Helper()
	for _, one := range cases {
		if met[one] < least {
			t.Errorf("the case %q is drawn %d times, want %d", one, met[one], least)
		}
	}
}

// TestHelp: the tests tell what they mean, and the numbers are those of the chapter.
func TestHelp(t *testing.T) {
	for _, x := range []struct{ got, want string }{
		{asked("split 7").String(), "split 7"}, {asked(" path -1 ").String(), "path -1"}, {asked("line").String(), "line"},
		{told(api.OK, "", ""), " | "}, {told(api.OK, "0.0", ""), "0.0 | "}, {told(api.ErrWitShot, "", ""), "no shot"}, {told(api.ErrWitTrail, "", "0.0"), "no trail and  | 0.0"},
		{told(api.ErrWitRun, "3 4"), "no run and 3 4"}, {placesTold([]int{3, 0, 12}), "3 0 12"}, {placesTold(nil), ""},
		{errorTold(api.OK), "ok"}, {errorTold(api.ErrWitCut), "no cut"}, {errorTold(api.ErrWitEnd), "no end"}, {errorTold(179), "error 179"}, {errorTold(185), "error 185"},
	} {
		if x.got != x.want {
			t.Errorf("%q is told, want %q", x.got, x.want)
		}
	}
}

func TestNumbersAreTheChapters(t *testing.T) {
	got := []int{int(api.ErrWitShot), int(api.ErrWitTrail), int(api.ErrWitRun), int(api.ErrWitCut), int(api.ErrWitEnd), api.MaxTasks, api.MaxPorts, api.MaxId, api.MaxScript,
		api.TrailStep, api.TrailMark, api.TrailCopy, api.TrailPart, api.TrailTrigger, api.TrailReady, api.TrailComplete, api.TrailAbort, api.TrailCommit, api.TrailDown, api.TrailUp}
	for k, want := range []int{180, 181, 182, 183, 184, 12, 4, 9999, 2000, 1, 2, 3, 4, 5, 6, 7, 8, 9, 10, 11} {
		if got[k] != want {
			t.Errorf("number %d is %d, want %d", k, got[k], want)
		}
	}
}
