package lane_test

import (
	"math/rand"
	"slices"
	"strconv"
	"testing"

	"eddy/api"
	"eddy/pen"
)

// shortCalls gives calls of every kind, as few as tell all ways of a lane apart.
func shortCalls() []call {
	return []call{
		{kind: callPut, items: items("a")}, {kind: callPut, items: items("1")}, {kind: callPut, items: items("b 2 c")}, {kind: callPut, items: items("d -1 3")},
		{kind: callTake}, {kind: callPeek}, {kind: callPull}, {kind: callRefill, records: records("x y")}, {kind: callList}, {kind: callFull}, {kind: callClose},
	}
}

// plays holds a lane against the model, call by call.
func plays(t *testing.T, room int, script []call) bool {
	t.Helper()
	l, m := made(t, "P5.1", room), &model{room: room}
	for k, c := range script {
		if got, want := c.of(l), c.of(m); !like(got, want) {
			t.Errorf("P5.1 to P5.7: New(%d), %v: the last answers %s, want %s", room, script[:k+1], shown(got), shown(want))
			return false
		}
	}
	return true
}

func TestAllShortScriptsAgainstTheModel(t *testing.T) {
	last := call{kind: callList}
	for _, room := range []int{0, 1, 2} {
		for script := range pen.Rows(shortCalls(), 5) {
			if !plays(t, room, append(slices.Clone(script), last)) {
				return
			}
		}
	}
}

// A writer writes calls from a fixed seed; all its records have keys of their own, all its markers numbers of their own.
type writer struct {
	*rand.Rand
	made int
}

func (w *writer) record() api.Record {
	w.made++
	return rec("k" + strconv.Itoa(w.made))
}

func (w *writer) item() api.Item {
	switch w.Intn(20) {
	case 0:
		return marker(-1 - w.Intn(3))
	case 1, 2, 3, 4, 5, 6:
		w.made++
		return marker(w.made)
	}
	return api.Item{Rec: w.record()}
}

// kind gives a kind of call: mostly Put and Take, and Close so rarely that most scripts go on for long.
func (w *writer) kind() int {
	if w.Intn(2) == 0 {
		return []int{callPut, callPut, callTake}[w.Intn(3)]
	}
	if w.Intn(100) == 0 {
		return callClose
	}
	return w.Intn(callClose)
}

func (w *writer) call() call {
	c := call{kind: w.kind()}
	switch c.kind {
	case callPut:
		for range w.Intn(5) {
			c.items = append(c.items, w.item())
		}
	case callRefill:
		for range w.Intn(4) {
			c.records = append(c.records, w.record())
		}
	}
	return c
}

func TestLongScriptsAgainstTheModel(t *testing.T) {
	for seed := range int64(2000) {
		w := &writer{Rand: rand.New(rand.NewSource(seed))}
		var script []call
		for range 80 {
			script = append(script, w.call())
		}
		if !plays(t, int(seed)%(api.MaxCap+1), script) {
			return
		}
	}
}

// A history is what went into a lane and what came out, records and markers apart.
type history struct {
	in, out [2][]api.Item
}

func (h *history) add(row *[2][]api.Item, all ...api.Item) {
	for _, x := range all {
		kind := min(x.Mark, 1)
		row[kind] = append(row[kind], x)
	}
}

// note writes down what a call laid and what it took out.
func (h *history) note(c call, a answer) {
	switch c.kind {
	case callPut:
		h.add(&h.in, c.items[:a.n]...)
	case callTake:
		if a.ok {
			h.add(&h.out, a.item)
		}
	case callPull:
		if a.n > 0 {
			h.add(&h.out, marker(a.n))
		}
	case callClose:
		h.add(&h.out, a.items...)
	}
}

func TestWhatComesOutIsTheFirstOfWhatWentIn(t *testing.T) {
	for seed := range int64(2000) {
		w := &writer{Rand: rand.New(rand.NewSource(seed))}
		room := int(seed) % (api.MaxCap + 1)
		l, h := made(t, "P5.8", room), &history{}
		for range 80 {
			c := w.call()
			if c.kind == callRefill {
				continue
			}
			h.note(c, c.of(l))
			for kind := range h.in {
				if n := len(h.out[kind]); n > len(h.in[kind]) || !same(h.out[kind], h.in[kind][:n]) {
					t.Fatalf("P5.8: seed %d: %q came out, %q went in", seed, words(h.out[kind]), words(h.in[kind]))
				}
			}
			held := model{items: l.List()}
			if n := held.records(); n != len(h.in[0])-len(h.out[0]) || room > 0 && n > room {
				t.Fatalf("P5.8: seed %d: a lane of room %d holds %d records; %d went in and %d came out", seed, room, n, len(h.in[0]), len(h.out[0]))
			}
		}
	}
}
