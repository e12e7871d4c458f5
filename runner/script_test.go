package runner_test

import (
	"fmt"
	"slices"
	"testing"

	"eddy/api"
	"eddy/pen"
)

// wantCases fails the test where a case was met too seldom.
func wantCases(t *testing.T, met map[string]int, least int, cases ...string) {
	t.Helper()
	for _, one := range cases {
		if met[one] < least {
			t.Errorf("the case %q is drawn %d times, want %d", one, met[one], least)
		}
	}
}

// pickCase names what stands at the port of a pick, and how.
func (m *model) pickCase(c call) string {
	if c.Task < 0 || c.Task >= len(m.plan.Tasks) {
		return "no task"
	} else if c.Port < 0 || c.Port >= m.ports(c.Task) {
		return "no port"
	}
	items := *m.at(c.Task, c.Port)
	marker := slices.IndexFunc(items, func(x api.Item) bool { return x.Mark > 0 })
	what := "a record"
	switch {
	case len(items) == 0 && m.is(c.Task, api.Source):
		what = "a tape"
	case len(items) == 0:
		what = "nothing"
	case marker == 0 && items[0].Mark < m.books[c.Task].marker:
		what = "a marker below now"
	case marker == 0:
		what = "a marker"
	case marker > 0 && m.mode == api.Overtaking:
		what = "a marker behind records"
	}
	if m.held(c.Task, c.Port) {
		return "held over " + what
	}
	return what
}

// laneCases names what a task's out lanes are like: how many are full, and whether a back lane holds as much as would fill another one.
func (m *model) laneCases(task int) (full, outs int, long bool) {
	for k, e := range m.plan.Edges {
		if e.From != task {
			continue
		}
		outs++
		if m.full(task, e.Out) {
			full++
		} else if m.back(k) && len(recordsIn(m.lanes[k])) >= m.plan.Cap {
			long = true
		}
	}
	return full, outs, long
}

// tally makes a call of the model, and counts the cases that it is one of.
func (m *model) tally(met map[string]int, c call) {
	meet := func(words ...any) { met[fmt.Sprint("mode ", m.mode, ": ", fmt.Sprint(words...))]++ }
	if c.What != "pick" {
		a := c.of(m)
		switch c.What {
		case "post":
			meet("post: ", didTold(a.Number))
		case "commit":
			meet("commit: ", min(len(c.Counts), 3), " counts")
		default:
			meet(c.What, ": ", errorTold(a.Err))
		}
		return
	}
	what, trail := m.pickCase(c), len(m.trail)
	var full, outs int
	var long bool
	if what != "no task" && what != "no port" {
		full, outs, long = m.laneCases(c.Task)
	}
	did := m.Pick(c.Task, c.Port)
	meet(what, ": ", didTold(did))
	if did == api.DidStep && long {
		meet("step beside a long back lane")
	}
	if did == api.DidBlock && full < outs {
		meet("block beside lanes with room")
	}
	if did == api.DidStep && full > 0 {
		meet("step beside full lanes")
	}
	for _, e := range m.trail[trail:] {
		switch e.Kind {
		case api.TrailCopy:
			meet("copy")
			if full > 0 {
				meet("copy past full lanes")
			}
			if len(m.books[e.Task].part.Pend) > 0 {
				meet("copy with pending output")
			}
		case api.TrailPart:
			meet("part dropped: ", m.under() != e.Id)
			for _, l := range m.books[e.Task].part.Logs {
				meet("log of a part: ", min(len(l), 2))
			}
		}
	}
}

// TestDrawnScripts: plans, tapes, starts and scripts of calls in all modes, with each case counted.
func TestDrawnScripts(t *testing.T) {
	met := map[string]int{}
	for seed := range 800 {
		w := seeded(seed)
		k := w.kind()
		script := w.script(k, 60+20*len(k.plan.Tasks))
		m := k.model()
		for _, c := range script {
			m.tally(met, c)
		}
		if !follow(t, k, script) {
			return
		}
	}
	for mode := 1; mode <= 3; mode++ {
		all := []string{"no task: nothing", "no port: nothing", "a tape: step", "a tape: empty", "a tape: block", "nothing: empty", "a marker: mark", "a record: step", "a record: block",
			"trigger: ok", "trigger: under", "trigger: ids", "post: empty", "post: ack", "post: ready", "abort: ok", "abort: none", "settle: ok", "settle: not ready", "commit: 0 counts", "commit: 1 counts", "commit: 2 counts", "commit: 3 counts",
			"step beside a long back lane", "block beside lanes with room", "step beside full lanes", "copy", "copy past full lanes", "copy with pending output", "part dropped: true", "part dropped: false", "log of a part: 0", "log of a part: 1", "log of a part: 2"}
		switch mode {
		case api.Aligned:
			all = append(all, "held over nothing: held", "held over a record: held", "held over a marker: held")
		case api.Recorded:
			all = append(all, "a marker below now: mark")
		case api.Overtaking:
			all = append(all, "a marker behind records: mark", "a marker below now: mark")
		}
		for _, one := range all {
			wantCases(t, met, 10, fmt.Sprint("mode ", mode, ": ", one))
		}
	}
}

// shortScripts lets all scripts of so many calls be followed, in all modes, behind calls that lead to somewhere.
func shortScripts(t *testing.T, k kind, count int, calls []string, lead ...string) {
	t.Helper()
	var some, script []call
	for _, s := range calls {
		some = append(some, called(s))
	}
	for _, s := range lead {
		script = append(script, called(s))
	}
	for mode := 1; mode <= 3; mode++ {
		for row := range pen.Rows(some, count) {
			if !follow(t, k.in(mode), append(slices.Clip(script), row...)) {
				return
			}
		}
	}
}

func TestAllShortScripts(t *testing.T) {
	shortScripts(t, kindOf(line(), "a=1 | b=2"), 5, []string{"0.0", "1.0", "trigger", "post", "abort"})
	shortScripts(t, kindOf(line(), "a=1 | b=2"), 5, []string{"0.0", "1.0", "post", "commit 1"}, "0.0", "1.0", "0.0", "trigger")
	shortScripts(t, kindOf(line(), "a=1"), 5, []string{"0.0", "1.0", "trigger", "abort"}, "0.0", "trigger", "0.0")
}

// TestAllShortScriptsOfPorts: two ports, and a port that leads back.
func TestAllShortScriptsOfPorts(t *testing.T) {
	ports := kindOf(pair(), "a=1 / x=1")
	shortScripts(t, ports, 5, []string{"0.0", "1.0", "2.0", "2.1", "3.0"}, "0.0", "1.0", "trigger")
	shortScripts(t, ports, 5, []string{"0.0", "1.0", "2.0", "2.1"}, "trigger", "0.0", "2.0", "abort", "trigger")
	back := kindOf(loop(), "a=1 | b=2")
	shortScripts(t, back, 5, []string{"0.0", "1.0", "1.1", "2.0"}, "0.0", "1.0", "2.0", "0.0", "trigger")
	shortScripts(t, back, 4, []string{"1.0", "1.1", "2.0", "3.0", "post"}, "0.0", "1.0", "2.0", "trigger", "0.0", "1.0", "2.0")
}
