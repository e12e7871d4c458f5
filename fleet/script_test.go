package fleet_test

import (
	"fmt"
	"slices"
	"testing"

	"eddy/api"
	"eddy/pen"
)

// pickCase names what stands at the port of a pick, and how.
func (m *model) pickCase(c call) string {
	if c.A < 0 || c.A >= len(m.plan.Tasks) {
		return "no task"
	} else if c.B < 0 || c.B >= m.ports(c.A) {
		return "no port"
	}
	items := *m.at(c.A, c.B)
	marker := slices.IndexFunc(items, isMarker)
	what := "a record"
	switch {
	case len(items) == 0 && m.is(c.A, api.Source):
		what = "a tape"
	case len(items) == 0 && m.awaits(c):
		what = "nothing yet"
	case len(items) == 0:
		what = "nothing"
	case marker == 0:
		what = "a marker"
	case marker > 0 && m.mode == api.Overtaking:
		what = "a marker behind records"
	}
	if edge := m.edgeAt(c.A, c.B); edge >= 0 && m.roads[edge] != nil {
		what = "far: " + what
	}
	if m.books[c.A].Held(c.B) {
		return "held over " + what
	}
	return what
}

// awaits tells whether something is on its way to a port.
func (m *model) awaits(c call) bool {
	edge := m.edgeAt(c.A, c.B)
	return edge >= 0 && m.roads[edge] != nil && m.roads[edge].wanted <= len(m.roads[edge].messages)
}

// packetCase names what a packet in flight is to the machine that it goes to.
func (m *model) packetCase(i int) string {
	if !m.has(i) {
		return "no packet"
	}
	f := m.flights[i]
	l, ok := letterOf(f.Data)
	switch {
	case !ok:
		return fmt.Sprint("spoilt by several bits: ", f.flips > 1)
	case l.lane >= len(m.roads):
		return "of no edge"
	case m.roads[l.lane] == nil:
		return "of a local edge"
	case l.answer && f.To == m.roads[l.lane].from:
		return m.answerCase(m.roads[l.lane], l)
	case !l.answer && f.To == m.roads[l.lane].to:
		return m.dataCase(m.roads[l.lane], l)
	}
	return "at another machine"
}

func (m *model) answerCase(r *road, l letter) string {
	switch {
	case l.number == 0 || l.number > len(r.messages)+1:
		return "an answer that is refused"
	case l.number-1 <= r.answered && l.word <= r.word:
		return "an answer that says nothing new"
	case l.number-1 <= r.answered:
		return "an answer with a new word"
	}
	return "an answer"
}

func (m *model) dataCase(r *road, l letter) string {
	_, kept := r.kept[l.number]
	switch {
	case l.number < r.wanted || kept:
		return "data that has come already"
	case l.number >= r.wanted+16:
		return "data beyond the window"
	case l.number > r.wanted:
		return "data ahead of its turn"
	}
	if _, ok := itemOf(l.message); !ok {
		return "data that is no item"
	}
	if _, more := r.kept[l.number+1]; more {
		return "data, and more with it"
	}
	return "data"
}

// tally makes a call of the model, and counts the cases that it is one of.
func (m *model) tally(met map[string]int, c call) {
	meet := func(words ...any) { met[fmt.Sprint("mode ", m.mode, ": ", fmt.Sprint(words...))]++ }
	full := len(m.flights) == 256
	switch c.What {
	case "pick":
		what := m.pickCase(c)
		meet(what, ": ", didTold(m.Pick(c.A, c.B)))
	case "deliver":
		what, flying := m.packetCase(c.A), len(m.flights)
		m.Deliver(c.A)
		meet("deliver: ", what, ", answered: ", len(m.flights) == flying)
	case "copy":
		meet("copy: ", m.Copy(c.A), ", full: ", full)
	case "drop", "flip":
		meet(c.What, ": ", c.of(m).Ok)
	case "tick":
		sent, flying := m.Tick(c.A), len(m.flights)
		meet("tick: ", min(sent, 3), ", more than a window: ", sent == 17, ", lost: ", flying == 256 && full)
	case "post":
		meet("post: ", didTold(c.of(m).Number))
	default:
		meet(c.What, ": ", errorTold(c.of(m).Err))
	}
}

// everyMode gives cases as they are named in each mode.
func everyMode(cases ...string) []string {
	var all []string
	for mode := 1; mode <= 3; mode++ {
		for _, one := range cases {
			all = append(all, fmt.Sprint("mode ", mode, ": ", one))
		}
	}
	return all
}

// TestDrawnScripts: plans, tapes, machines, starts and scripts of calls in all modes, with each case counted; no packet is spoilt by more than one flip.
func TestDrawnScripts(t *testing.T) {
	met := map[string]int{}
	for seed := range 450 {
		w := seeded(seed)
		k := w.kind()
		script := w.script(k, w.length(k))
		m := k.model()
		for _, c := range script {
			m.tally(met, c)
		}
		if !follow(t, k, script, false) {
			return
		}
	}
	wantCases(t, met, 10, everyMode("no task: nothing", "no port: nothing", "a tape: step", "a tape: empty", "a tape: block", "nothing: empty", "a marker: mark", "a record: step", "a record: block",
		"far: nothing: empty", "far: nothing yet: empty", "far: a marker: mark", "far: a record: step", "far: a record: block",
		"trigger: error 0", "trigger: under", "trigger: ids", "post: empty", "post: ack", "post: ready", "abort: error 0", "abort: none",
		"tick: 0, more than a window: false, lost: false", "tick: 1, more than a window: false, lost: false", "tick: 2, more than a window: false, lost: false", "tick: 3, more than a window: false, lost: false",
		"copy: true, full: false", "copy: false, full: false", "drop: true", "drop: false", "flip: true", "flip: false",
		"deliver: no packet, answered: true", "deliver: data, answered: true", "deliver: data, and more with it, answered: true", "deliver: data that has come already, answered: true", "deliver: data ahead of its turn, answered: true",
		"deliver: an answer, answered: false", "deliver: an answer with a new word, answered: false", "deliver: an answer that says nothing new, answered: false", "deliver: spoilt by several bits: false, answered: false")...)
	wantCases(t, met, 10, "mode 1: held over far: a record: held", "mode 1: held over a record: held", "mode 1: held over far: nothing: held", "mode 3: far: a marker behind records: mark", "mode 3: a marker behind records: mark")
}

// TestForgedScripts: packets are spoilt by any number of flips, so that they become other ones.
func TestForgedScripts(t *testing.T) {
	met := map[string]int{}
	for seed := range 450 {
		w := seeded(10000 + seed)
		w.forging = true
		k := w.kind()
		script := w.script(k, 2*w.length(k))
		m := k.model()
		for _, c := range script {
			m.tally(met, c)
		}
		if !follow(t, k, script, true) {
			return
		}
	}
	wantCases(t, met, 10, everyMode("deliver: spoilt by several bits: true, answered: false", "deliver: data that is no item, answered: true", "deliver: an answer that is refused, answered: false")...)
	wantCases(t, met, 2, everyMode("deliver: data beyond the window, answered: true", "deliver: at another machine, answered: false", "deliver: of a local edge, answered: false", "deliver: of no edge, answered: false")...)
}

// TestCrowdedScripts: the network has no room, or next to none.
func TestCrowdedScripts(t *testing.T) {
	met := map[string]int{}
	for seed := range 90 {
		w := seeded(20000 + seed)
		k := w.kindOf(pen.One(w.Pen, line(), chain(), loop())).in(w.Between(1, 3))
		for task := range k.place {
			k.place[task] = (task + seed) % 8
		}
		m := k.model()
		var script []call
		more := func(c call) {
			script = append(script, c)
			m.tally(met, c)
		}
		for range 3 {
			more(picked(0, 0))
		}
		more(call{"tick", 0, 0})
		for !m.has(255 - w.Below(3)) {
			more(call{"copy", w.Below(len(m.flights)), 0})
		}
		for range 60 {
			more(w.call(m))
			more(pen.One(w.Pen, call{"copy", 0, 0}, call{"tick", 0, 0}, w.pick(m)))
		}
		if !follow(t, k, script, false) {
			return
		}
	}
	wantCases(t, met, 10, everyMode("copy: false, full: true", "tick: 2, more than a window: false, lost: true", "deliver: data that has come already, answered: true")...)
}

// shortScripts lets all scripts of so many calls be followed, in all modes, behind calls that lead to somewhere.
func shortScripts(t *testing.T, k kind, count int, calls []string, lead ...string) {
	t.Helper()
	var some, script []call
	for _, s := range calls {
		some = append(some, called(s))
	}
	for _, s := range lead {
		script = append(script, called(s))
	}
	for mode := 1; mode <= 3; mode++ {
		for row := range pen.Rows(some, count) {
			if !follow(t, k.in(mode), append(slices.Clip(script), row...), false) {
				return
			}
		}
	}
}

func TestAllShortScripts(t *testing.T) {
	k := kindOf(line(), "a=1 | b=2", 0, 1)
	shortScripts(t, k, 5, []string{"0.0", "1.0", "tick 0", "deliver 0", "deliver 1"})
	shortScripts(t, k, 4, []string{"0.0", "1.0", "tick 0", "deliver 0", "drop 0", "copy 0"}, "0.0", "tick 0")
	shortScripts(t, k, 5, []string{"0.0", "1.0", "tick 0", "deliver 0", "post"}, "0.0", "trigger", "0.0")
	shortScripts(t, k.with(2), 4, []string{"1.0", "tick 0", "deliver 0", "deliver 1", "deliver 2", "flip 0 40"}, "0.0", "trigger", "0.0", "0.0", "tick 0")
}

// TestAllShortScriptsOfPorts: two ports, one of which is far, and ports that lead back, near and far.
func TestAllShortScriptsOfPorts(t *testing.T) {
	ports := kindOf(pair(), "a=1 / x=1", 0, 1, 0, 0)
	shortScripts(t, ports, 4, []string{"0.0", "1.0", "2.0", "2.1", "tick 1", "deliver 0"}, "1.0", "trigger", "1.0", "tick 1")
	for _, place := range [][]int{{0, 1, 2, 0}, {0, 1, 1, 0}, {0, 0, 1, 1}} {
		back := kindOf(loop(), "a=1 | b=2", place...)
		lead := []string{"0.0", "tick 0", "deliver 0", "deliver 0", "deliver 0", "1.0", "tick 1", "deliver 0", "deliver 0", "deliver 0", "trigger"}
		shortScripts(t, back, 4, []string{"0.0", "1.0", "1.1", "2.0", "tick 2", "deliver 0"}, lead...)
	}
}
