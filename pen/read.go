package pen

import (
	"strconv"
	"strings"

	"eddy/api"
	"eddy/plan"
	"eddy/value"
)

// The readers below read what tests write by hand. A test whose text can't be read is at fault itself: they panic.

// ReadNumber reads a number.
func ReadNumber(text string) int {
	n, err := strconv.Atoi(text)
	if err != nil {
		panic("no number: " + text)
	}
	return n
}

// ReadValue reads the text of a value.
func ReadValue(text string) api.Value {
	v, _, e := value.Parse(text)
	if e != api.OK {
		panic("no value: " + text)
	}
	return v
}

// ReadRecord reads a record: `a=[1, 2]@0@3` has the key a, and the loop counters 0 and 3.
func ReadRecord(text string) api.Record {
	parts := strings.Split(text, "@")
	key, val, _ := strings.Cut(parts[0], "=")
	r := api.Record{Key: key, Val: ReadValue(val)}
	for _, n := range parts[1:] {
		r.Loops = append(r.Loops, ReadNumber(n))
	}
	return r
}

// ReadRecords reads records: `a=1 | b=2`; the empty text is none.
func ReadRecords(text string) []api.Record {
	var all []api.Record
	for _, one := range strings.Split(text, " | ") {
		if one != "" {
			all = append(all, ReadRecord(one))
		}
	}
	return all
}

// ReadLists reads lists of records: `a=1 | b=2 / / c=3` is three, of which the second is empty.
func ReadLists(text string) [][]api.Record {
	var all [][]api.Record
	for _, one := range strings.Split(text, "/") {
		all = append(all, ReadRecords(strings.TrimSpace(one)))
	}
	return all
}

// ReadState reads a state: `7`, or `0; a:[5, none]; b:[]` with two cells.
func ReadState(text string) api.State {
	parts := strings.Split(text, "; ")
	s := api.State{Num: ReadNumber(parts[0])}
	for _, c := range parts[1:] {
		s.Cells = append(s.Cells, readCell(c))
	}
	return s
}

func readCell(text string) api.Cell {
	key, vals, _ := strings.Cut(text, ":")
	return api.Cell{Key: key, Vals: ReadValue(vals).Items}
}

// ReadDelta reads a difference of states: `4; b:[3]; -a; -c` has a cell b, and the keys a and c are gone.
func ReadDelta(text string) api.Delta {
	parts := strings.Split(text, "; ")
	d := api.Delta{Num: ReadNumber(parts[0])}
	for _, one := range parts[1:] {
		if key, gone := strings.CutPrefix(one, "-"); gone {
			d.Gone = append(d.Gone, key)
		} else {
			d.Set = append(d.Set, readCell(one))
		}
	}
	return d
}

// ReadConfig reads a configuration: the states, the lanes and the outputs, each with a / between two of them.
func ReadConfig(states, lanes, outs string) api.Config {
	c := api.Config{Lanes: ReadLists(lanes), Outs: ReadLists(outs)}
	for _, one := range strings.Split(states, " / ") {
		c.States = append(c.States, ReadState(one))
	}
	return c
}

// ReadEvents reads events: `0.0 2.1` is one of task 0 at port 0 and one of task 2 at port 1.
func ReadEvents(text string) []api.Event {
	var all []api.Event
	for _, one := range strings.Fields(text) {
		task, port, _ := strings.Cut(one, ".")
		all = append(all, api.Event{Task: ReadNumber(task), Port: ReadNumber(port)})
	}
	return all
}

// ReadPlan reads a plan whose lanes have the bound 1. Each line is a task as a plan's text says it, or, if its first word has a dot, an edge.
func ReadPlan(lines ...string) api.Plan {
	text := "plan 1\n"
	for _, l := range lines {
		line := "task " + l
		if word, _, _ := strings.Cut(l, " "); strings.Contains(word, ".") {
			line = "edge " + l
		}
		text += line + "\n"
	}
	p, err := plan.ParsePlan(text)
	if err != nil {
		panic("no plan: " + err.Error() + " of\n" + text)
	}
	return p
}
