package post_test

import (
	"fmt"
	"testing"

	"eddy/api"
	"eddy/equal"
	"eddy/pen"
)

// A step is a call and what it answered.
type step struct {
	call
	answer
}

// A history is what a coordinator was told and what it answered, from its beginning on.
type history []step

// numbersFault tells where the last step isn't a trigger as P14.8 says: first, first + 1, and so on.
func (h history) numbersFault(k kind) string {
	want := k.first
	for _, s := range h[:len(h)-1] {
		if s.What == "trigger" && s.Err == api.OK {
			want++
		}
	}
	if last := h[len(h)-1]; last.What == "trigger" && last.Err == api.OK && last.Number != want {
		return fmt.Sprint("P14.8: the number is ", last.Number, ", want ", want)
	}
	return ""
}

// wentFault tells where a status went in a way that P14.8 doesn't name, or by a call that doesn't do so.
func (s step) wentFault(id, from, to int) string {
	fit := from == to
	switch s.What {
	case "trigger":
		fit = fit || from == 0 && to == 1 && s.Number == id
	case "pick":
		fit = fit || from == 1 && to == 2 && s.Number == 2 && s.Shot.Id == id
	case "abort":
		fit = fit || from == 1 && to == 4 && s.Number == id
	case "settle":
		fit = fit || from == 2 && s.Id == id && (to == 3 && s.Ok || to == 4 && !s.Ok)
	}
	if !fit || s.Err != api.OK && from != to {
		return fmt.Sprint("P14.8: ", s.call, " lets the status of ", id, " go from ", from, " to ", to)
	}
	return ""
}

// shotFault tells where a shot, the last step's answer, isn't what P14.9 says of it.
func (h history) shotFault(k kind) string {
	shot := h[len(h)-1].Shot
	if len(shot.Parts) != k.tasks || shot.Sum != k.sum {
		return fmt.Sprint("P14.9: a shot of ", len(shot.Parts), " parts with the sum ", shot.Sum)
	}
	for task, got := range shot.Parts {
		count := 0
		for _, s := range h {
			if s.What == "hand" && s.Err == api.OK && s.Id == shot.Id && s.Task == task {
				if count++; !equal.Part(got, s.Part) {
					return fmt.Sprint("P14.9: the part of task ", task, " is ", partTold(got), ", handed in was ", partTold(s.Part))
				}
			}
		}
		if count != 1 {
			return fmt.Sprint("P14.9: of task ", task, " ", count, " parts were handed in")
		}
	}
	return ""
}

// pickFault tells where a pick, the last step, isn't what P14.10 says: as many as there are tasks make the shot ready.
func (h history) pickFault(k kind) string {
	hands, picks := 0, 0
	for _, s := range h[:len(h)-1] {
		switch {
		case s.Err != api.OK:
		case s.What == "trigger" || s.What == "abort":
			hands, picks = 0, 0
		case s.What == "hand":
			hands++
		case s.What == "pick" && s.Number > 0:
			picks++
		}
	}
	want := 1
	switch {
	case hands == picks:
		want = 0
	case picks == k.tasks-1:
		want = 2
	}
	if got := h[len(h)-1]; got.Number != want {
		return fmt.Sprint("P14.10: the pick answers ", got.Number, " behind ", hands, " parts and ", picks, " picks, want ", want)
	}
	return ""
}

// fault tells what is wrong with the last step of a history by what stands ahead of it.
func (h history) fault(k kind) string {
	last := h[len(h)-1]
	if why := h.numbersFault(k); why != "" || last.What != "pick" {
		return why
	}
	if why := h.pickFault(k); why != "" || last.Number != 2 {
		return why
	}
	return h.shotFault(k)
}

// statuses tells those of all numbers around the ones that a short script can begin.
func statuses(p coordinator, k kind) []int {
	all := make([]int, 40)
	for n := range all {
		all[n] = p.Status(k.first - 2 + n)
	}
	return all
}

// agree holds one call of a coordinator against that of the model, and what both tell behind it.
func agree(p coordinator, m *model, c call) (answer, string) {
	got, want := c.of(p), c.of(m)
	if !same(got, want) {
		return got, "the last answers " + c.told(got) + ", want " + c.told(want)
	}
	for _, c := range []call{{What: "open"}, {What: "status", Id: c.Id}, {What: "status", Id: m.next() - 1}, {What: "status", Id: m.next()}} {
		if got, want := c.of(p), c.of(m); !same(got, want) {
			return got, fmt.Sprint("behind it ", c, " answers ", c.told(got), ", want ", c.told(want))
		}
	}
	return got, ""
}

// follow holds a coordinator against the model and against its own history, call by call.
func follow(t *testing.T, k kind, script []call) bool {
	t.Helper()
	p, m := k.open(t), &model{kind: k, past: make([]call, 0, len(script))}
	h := make(history, 0, len(script))
	before := statuses(p, k)
	for n, c := range script {
		got, why := agree(p, m, c)
		h = append(h, step{c, got})
		if why == "" {
			why = h.fault(k)
		}
		after := statuses(p, k)
		for at := range after {
			if why == "" {
				why = h[n].wentFault(k.first-2+at, before[at], after[at])
			}
		}
		if why != "" {
			t.Errorf("P14.1 to P14.10: %v, %s: %s", k, lastOf(script[:n+1]), why)
			return false
		}
		before = after
	}
	return true
}

// shortCalls gives the calls of a script that is short, on so many tasks and on ids from 1 on; each part is another one by its place.
func shortCalls(tasks, ids, place int) []call {
	all := []call{called("trigger"), called("pick"), called("abort")}
	for id := 1; id <= ids; id++ {
		all = append(all, call{What: "settle", Id: id, Ok: place%2 == 0})
		for task := range tasks {
			all = append(all, call{What: "hand", Id: id, Task: task, Part: api.Part{State: api.State{Num: 10*place + task}}})
		}
	}
	return all
}

// shortScripts lets all scripts of so many calls be followed, behind calls that lead to somewhere.
func shortScripts(t *testing.T, tasks, ids, count int, lead ...string) {
	t.Helper()
	var script []call
	for _, s := range lead {
		script = append(script, called(s))
	}
	calls := make([][]call, count)
	var numbers []int
	for place := range calls {
		calls[place] = shortCalls(tasks, ids, place)
		script = append(script, call{})
	}
	for n := range calls[0] {
		numbers = append(numbers, n)
	}
	for row := range pen.Rows(numbers, count) {
		for place, n := range row {
			script[len(lead)+place] = calls[place][n]
		}
		if !follow(t, kind{tasks, 1, 5}, script) {
			return
		}
	}
}

func TestAllShortScripts(t *testing.T) {
	shortScripts(t, 1, 2, 6)
	shortScripts(t, 2, 1, 5)
}

// TestAllShortScriptsBehindOthers: a snapshot that stands anywhere, and the next one.
func TestAllShortScriptsBehindOthers(t *testing.T) {
	shortScripts(t, 1, 2, 4, "trigger", "hand 1 0 A", "pick")
	shortScripts(t, 2, 2, 3, "trigger")
	shortScripts(t, 2, 2, 3, "trigger", "hand 1 1 B")
	shortScripts(t, 2, 2, 3, "trigger", "hand 1 1 B", "pick")
	shortScripts(t, 2, 2, 3, "trigger", "hand 1 1 B", "hand 1 0 A", "pick")
	shortScripts(t, 2, 2, 3, "trigger", "hand 1 1 B", "hand 1 0 A", "pick", "pick")
	shortScripts(t, 2, 2, 3, "trigger", "hand 1 1 B", "hand 1 0 A", "pick", "pick", "trigger")
	shortScripts(t, 2, 2, 3, "trigger", "hand 1 1 B", "hand 1 0 A", "pick", "pick", "trigger", "hand 2 1 C", "hand 2 0 D")
	shortScripts(t, 2, 2, 3, "trigger", "hand 1 1 B", "hand 1 0 A", "pick", "pick", "settle 1 yes", "trigger", "hand 2 1 C", "hand 2 0 D", "pick")
	shortScripts(t, 2, 2, 3, "trigger", "hand 1 1 B", "hand 1 0 A", "pick", "abort", "trigger")
	shortScripts(t, 2, 2, 3, "trigger", "hand 1 1 B", "hand 1 0 A", "abort", "trigger", "hand 2 0 C")
	shortScripts(t, 3, 2, 2, "trigger", "hand 1 1 B", "hand 1 0 A", "pick", "pick", "abort", "trigger", "hand 2 2 C", "hand 2 0 D", "pick")
}
