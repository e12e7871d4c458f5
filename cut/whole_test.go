package cut_test

import (
	"fmt"
	"strconv"
	"testing"

	"eddy/api"
	"eddy/equal"
	"eddy/pen"
)

// A step is a call and what it answered.
type step struct {
	call
	answer
}

// A history is what a book was told and what it answered, from its beginning on.
type history []step

// taken tells whether the step is a call of this name that took something at the port.
func (s step) taken(what string, port int) bool {
	return s.What == what && s.Port == port && s.Err == api.OK
}

// copyOf finds the call in which the copy of an id was made; -1: none.
func (h history) copyOf(id int) int {
	for k, s := range h {
		if s.What == "mark" && s.call.Id == id && s.Ok {
			return k
		}
	}
	return -1
}

// closeOf finds the first call with OK of Mark(port, id, ..); -1: none.
func (h history) closeOf(port, id int) int {
	for k, s := range h {
		if s.taken("mark", port) && s.call.Id == id {
			return k
		}
	}
	return -1
}

// logOf gives what P13.7 says of the log of a port.
func (h history) logOf(k kind, port, id int) []api.Record {
	var all []api.Record
	end := h.closeOf(port, id)
	for at := h.copyOf(id) + 1; at < end; at++ {
		if h[at].taken("took", port) {
			all = append(all, h[at].Rec)
		}
	}
	if k.mode == api.Overtaking {
		all = append(all, h[end].Ahead...)
	}
	return all
}

// logsFault tells where a part, the last step's answer, isn't what P13.5 and P13.7 say of it.
func (h history) logsFault(k kind) string {
	last := h[len(h)-1]
	id, p := last.answer.Id, last.Part
	if at := h.copyOf(id); at < 0 || !equal.State(p.State, h[at].State) || !equal.Records(p.Pend, h[at].call.Pend) {
		return "P13.5: the part isn't the copy of " + strconv.Itoa(id)
	}
	if len(p.Logs) != k.ports {
		return fmt.Sprint("P13.5: the part has ", len(p.Logs), " logs")
	}
	for port, log := range p.Logs {
		if h.closeOf(port, id) < 0 {
			return fmt.Sprint("P13.5: a part, and port ", port, " is open")
		}
		if !equal.Records(log, h.logOf(k, port, id)) {
			return fmt.Sprint("P13.7: the log of port ", port, " is ", log, ", want ", h.logOf(k, port, id))
		}
		if k.mode == api.Aligned && port != k.back && len(log) > 0 {
			return fmt.Sprint("P13.7: the log of port ", port, ", a regular one, is ", log)
		}
	}
	return ""
}

// now is the greatest marker that was taken.
func (h history) now() int {
	now := 0
	for _, s := range h {
		if s.What == "mark" && s.Err == api.OK {
			now = max(now, s.call.Id)
		}
	}
	return now
}

// heldFault tells where the last step isn't what P13.8 says of a port between the call that closes it and the copy.
func (h history) heldFault(k kind) string {
	last, before := h[len(h)-1], h[:len(h)-1]
	if last.What != "took" && last.What != "mark" && last.What != "held" || last.Err != api.OK && last.Err != api.ErrCutHeld {
		return ""
	}
	now := before.now()
	between := k.mode == api.Aligned && now > 0 && before.closeOf(last.Port, now) >= 0 && before.copyOf(now) < 0
	if told := last.Err == api.ErrCutHeld || last.What == "held" && last.Ok; told != between {
		return fmt.Sprint("P13.8: it answers ", last.told(last.answer), "; is the port held: ", between)
	}
	return ""
}

// risingFault tells where a copy or a part of an id comes behind one that isn't below.
func (h history) risingFault() string {
	last := h[len(h)-1]
	for _, s := range h[:len(h)-1] {
		if last.What == "mark" && s.What == "mark" && last.Ok && s.Ok && s.call.Id >= last.call.Id {
			return fmt.Sprint("P13.9: a copy of ", last.call.Id, " behind one of ", s.call.Id)
		}
		if last.What == "part" && s.What == "part" && last.Ok && s.Ok && s.answer.Id >= last.answer.Id {
			return fmt.Sprint("P13.9: a part of ", last.answer.Id, " behind one of ", s.answer.Id)
		}
	}
	return ""
}

// fault tells what is wrong with the last step of a history by what stands ahead of it.
func (h history) fault(k kind) string {
	if why := h.heldFault(k) + h.risingFault(); why != "" {
		return why
	}
	if last := h[len(h)-1]; last.What == "part" && last.Ok {
		return h.logsFault(k)
	}
	return ""
}

// agree holds one call of a book against that of the model, and what both tell behind it.
func agree(b book, m *model, c call) (answer, string) {
	got, want := c.of(b), c.of(m)
	if !same(got, want) {
		return got, "the last answers " + c.told(got) + ", want " + c.told(want)
	}
	if b.Now() != m.Now() {
		return got, fmt.Sprint("behind it now is ", b.Now(), ", want ", m.Now())
	}
	for port := -1; port <= m.ports; port++ {
		if b.Held(port) != m.Held(port) {
			return got, fmt.Sprint("behind it Held(", port, ") is ", b.Held(port))
		}
	}
	return got, ""
}

// follow holds a book against the model and against its own history, call by call.
func follow(t *testing.T, k kind, script []call) bool {
	t.Helper()
	b, m := k.open(t), &model{kind: k, past: make([]call, 0, len(script))}
	h := make(history, 0, len(script))
	for n, c := range script {
		got, why := agree(b, m, c)
		h = append(h, step{c, got})
		if why == "" {
			why = h.fault(k)
		}
		if why != "" {
			t.Errorf("P13.1 to P13.9: %v, %s: %s", k, lastOf(script[:n+1]), why)
			return false
		}
	}
	return true
}

// shortCalls gives the calls of a script that is short: each record, each state and each list is another one by its place.
func shortCalls(ports, ids, place int) []call {
	name := string(rune('A' + place))
	all := []call{called("part")}
	for port := range ports {
		all = append(all, called("took "+strconv.Itoa(port)+" t"+name))
		for id := 1; id <= ids; id++ {
			all = append(all, called(fmt.Sprint("mark ", port, " ", id, " ", name, " a", name, " b", name)))
		}
	}
	return all
}

// shortScripts lets all scripts of so many calls be followed, with so many ports and ids, and each with a part asked at its end.
func shortScripts(t *testing.T, ports, ids, count int) {
	t.Helper()
	for _, k := range kinds(ports) {
		if k.ports != ports {
			continue
		}
		calls := make([][]call, count)
		var numbers []int
		for place := range calls {
			calls[place] = shortCalls(k.ports, ids, place)
		}
		for n := range calls[0] {
			numbers = append(numbers, n)
		}
		script := append(make([]call, count), called("part"))
		for row := range pen.Rows(numbers, count) {
			for place, n := range row {
				script[place] = calls[place][n]
			}
			if !follow(t, k, script) {
				return
			}
		}
	}
}

func TestAllShortScripts(t *testing.T) {
	shortScripts(t, 1, 3, 6)
	shortScripts(t, 2, 2, 5)
	shortScripts(t, 3, 1, 5)
}
