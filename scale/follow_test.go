package scale_test

import (
	"fmt"
	"math"
	"slices"
	"testing"

	"eddy/api"
	"eddy/equal"
	"eddy/flow"
	"eddy/pen"
	"eddy/scale"
)

func TestFollow(t *testing.T) {
	for _, x := range []struct {
		g               ground
		c, events, want string
	}{
		{sums(), "0 / 0 / 0 # / #", "", ""},
		{sums(), "0 / 0 / 0 # / #", "0.0 0.0", "0.0 0.0"},
		{sums(), "0 / 0 / 0 # / #", "0.0 1.0 2.0 0.0 1.0 2.0", "0.0 3.0 1.0 5.0 2.0 0.0 3.0 4.0 5.1 2.0"},
		{sums(), "0 / 0 / 0 # f=1 | g=2 | h=3 / #", "1.0 1.0 1.0", "3.0 1.0 5.0 3.0 4.0 5.1 3.0 4.0 5.1"},
		{sums().by("b", "c", "d"), "0 / 0 / 0 # d=1 | c=2 | b=3 | a=4 / #", "1.0 1.0 1.0 1.0", "3.0 6.0 7.3 3.0 5.0 7.2 3.0 4.0 7.1 3.0 1.0 7.0"},
		{sums().by(""), "0 / 0 / 0 # =1 / #", "1.0", "3.0 4.0 5.1"},
		// A window sends a record only when it is full.
		{pairs(), "0 / 0 / 0 # / a=1 | m=1 | a=2 | m=2 | m=3 #", "1.0 1.0 1.0 0.0 1.0 1.0", "3.0 1.0 3.0 4.0 3.0 1.0 5.0 0.0 3.0 4.0 5.1 3.0 4.0"},
		{pairs(), "0 / 0; a:[1]; g:[1] / 0 # / g=2 | a=2 #", "1.0 1.0", "3.0 4.0 5.1 3.0 1.0 5.0"},
		// A dedup sends a key's first record alone.
		{firsts(), "0 / 0 / 0 # a=1 | a=2 | b=1 | z=1 | b=2 | n=1 / #", "2.0 2.0 2.0 2.0 2.0 2.0", "3.0 2.0 6.0 3.0 2.0 3.0 4.0 6.1 3.0 5.0 6.2 3.0 4.0 3.0 5.0 6.2"},
		{firsts(), "0 / 0 / 0; n:[] # n=1 | b=1 / #", "2.0 2.0", "3.0 5.0 3.0 4.0 6.1"},
		// Events of other tasks are the same ones, at other ports too.
		{loop(), "0 / 0 / 0 / 0 / 0 # / / / / #", "0.0 1.0 2.0 3.0 1.1 2.0 0.0 1.0 2.0 3.0", "0.0 1.0 5.0 2.0 7.0 3.0 1.1 5.0 2.0 7.0 0.0 1.0 5.0 6.0 7.1 3.0"},
		{fork(), "0 / 0 / 0 / 0 / 0 / 0 # / / / / # /", "1.0 1.0 1.0 2.0 2.0 2.0 3.0 4.0 0.0 4.0 5.0 4.0", "1.0 1.0 1.0 2.0 2.0 2.0 3.0 6.0 4.0 9.0 0.0 6.0 7.0 9.1 5.0 6.0 8.0 9.2"},
		{fork().at(3).by("b"), "0 / 0 / 0 / 0; m:[] / 0 / 0 # / / m=1 | a=1 | z=1 | a=2 / / # /", "3.0 3.0 3.0 3.0", "6.0 7.0 6.0 3.0 8.0 6.0 7.0 8.1 6.0 3.0"},
	} {
		x.g.wantFollow(t, "P21.6", configOf(x.c), pen.ReadEvents(x.events), x.want)
	}
}

// cells gives so many cells, each of the int 1.
func cells(count int) []api.Cell {
	var all []api.Cell
	for k := range count {
		all = append(all, api.Cell{Key: fmt.Sprintf("k%02d", k), Vals: []api.Value{{Kind: api.Int, Int: 1}}})
	}
	return all
}

// TestFollowOfAFullTask: one that has no room for a new key sends nothing, and so does the union, though the copy would have room.
func TestFollowOfAFullTask(t *testing.T) {
	g := sums().by("k10")
	for count := 62; count <= 64; count++ {
		c := configOf("0 / 0 / 0 # k00=1 | new=2 | k63=3 | new=4 | a=5 / #")
		c.States[1].Cells = cells(count)
		want := map[int]string{
			62: "3.0 1.0 5.0 3.0 4.0 5.1 3.0 4.0 5.1 3.0 4.0 5.1 3.0 1.0",
			63: "3.0 1.0 5.0 3.0 4.0 5.1 3.0 4.0 3.0 4.0 5.1 3.0 1.0",
			64: "3.0 1.0 5.0 3.0 4.0 3.0 4.0 5.1 3.0 4.0 3.0 1.0",
		}[count]
		g.wantFollow(t, "P21.6", c, pen.ReadEvents("1.0 1.0 1.0 1.0 1.0"), want)
	}
}

// TestRoomForTheLastKey: P21.10 holds up to the event that fills the task, and may fail behind it.
func TestRoomForTheLastKey(t *testing.T) {
	g := sums().by("k10")
	c := configOf("0 / 0 / 0 # new=1 | k00=2 | k63=3 | other=4 / #")
	c.States[1].Cells = cells(63)
	l := pen.ReadEvents("1.0 2.0")
	end, _, _ := g.flow().Replay(c, l)
	if why := followsFault(g, c, l, end); why != "" || len(end.States[1].Cells) != api.MaxCells {
		t.Errorf("P21.10: with the last key %s", why)
	}
	// Behind it keys that are there go on as they did; a new one has room in a copy alone.
	for events, parts := range map[string]bool{"1.0 1.0 1.0": true, "1.0 1.0 1.0 1.0": true, "1.0 1.0": false} {
		l = pen.ReadEvents(events)
		end, _, e := g.flow().Replay(c, l)
		if why := followsFault(g, c, l, end); e != api.OK || (why != "") != parts {
			t.Errorf("P21.10: %s: %s", events, why)
		}
	}
}

// TestFollowErrors: the first event that can't happen, at any place of the list.
func TestFollowErrors(t *testing.T) {
	g := sums()
	c := configOf("4 / 0 / 0 # f=1 | g=2 / h=3 #")
	right := pen.ReadEvents("0.0 1.0 2.0 1.0 2.0 1.0 2.0 2.0")
	g.wantFollow(t, "P21.6", c, right, "0.0 3.0 1.0 5.0 2.0 3.0 4.0 5.1 2.0 3.0 4.0 5.1 2.0 2.0")
	for _, x := range []struct {
		event api.Event
		want  string
	}{
		{api.Event{Task: -1}, "error 91"}, {api.Event{Task: 3}, "error 91"}, {api.Event{Task: 5, Port: 1}, "error 91"}, {api.Event{Task: 1, Port: 1}, "error 91"}, {api.Event{Task: 1, Port: -1}, "error 91"},
		{api.Event{Port: 1}, "error 91"}, {api.Event{Task: math.MaxInt}, "error 91"}, {api.Event{Task: math.MinInt, Port: math.MinInt}, "error 91"},
	} {
		for at := range len(right) + 1 {
			// What stands behind it isn't looked at.
			g.wantFollow(t, "P21.6", c, slices.Concat(right[:at], []api.Event{x.event}, right[at:]), x.want)
			g.wantFollow(t, "P21.6", c, slices.Concat(right[:at], []api.Event{x.event, {Task: 0}}), x.want)
		}
	}
	for events, want := range map[string]string{"0.0 0.0": "error 92", "1.0 1.0 1.0": "error 92", "2.0 2.0": "error 92", "2.0 2.0 9.9": "error 92", "9.9 2.0 2.0": "error 91", "1.0 1.0 0.0 1.0 1.0": "error 92"} {
		g.wantFollow(t, "P21.6", c, pen.ReadEvents(events), want)
	}
}

// followsFault tells where the events of the spread plan don't lead to what stands for the end: P21.10.
func followsFault(g ground, c api.Config, l []api.Event, end api.Config) string {
	followed, e := scale.Follow(g.plan, g.tapes, g.task, c, l, g.bounds...)
	from, f := scale.Move(g.plan, g.tapes, g.task, c, g.bounds...)
	to, h := scale.Move(g.plan, g.tapes, g.task, end, g.bounds...)
	if e != api.OK || f != api.OK || h != api.OK {
		return fmt.Sprint("errors ", int(e), int(f), int(h))
	}
	got, n, e := g.wide().flow().Replay(from, followed)
	if e != api.OK || n != len(followed) || !equal.Config(got, to) {
		return fmt.Sprintf("%d of the events %s can happen, error %d, and lead to %s, want %s", n, pen.TellEvents(followed), int(e), pen.TellConfig(got), pen.TellConfig(to))
	}
	return ""
}

// mostCells tells how many cells the task has at most ahead of one of its events.
func mostCells(g ground, f *flow.Flow, c api.Config, l []api.Event) int {
	most := 0
	for _, e := range l {
		if e.Task == g.task {
			most = max(most, len(c.States[g.task].Cells))
		}
		c, _ = f.Step(c, e)
	}
	return most
}

// TestDrawnFollows: drawn runs, with an event that can't happen anywhere in them, against the model; and P21.10.
func TestDrawnFollows(t *testing.T) {
	met := map[string]int{}
	for seed := range 1200 {
		w := seeded(seed)
		g := w.ground()
		c := g.flow().Start()
		if w.Below(3) > 0 {
			c = w.config(g)
		}
		l, end := w.events(g, c, pen.One(w.Pen, 5, 30, 80))
		tried := l
		if w.Below(4) == 0 {
			tried = slices.Insert(slices.Clone(l), w.Below(len(l)+1), api.Event{Task: w.Between(-1, len(g.plan.Tasks)), Port: w.Below(3)})
		}
		got, e := scale.Follow(g.plan, g.tapes, g.task, c, tried, g.bounds...)
		want, f := modelFollow(g.plan, g.tapes, g.task, c, tried, g.bounds...)
		if e != f || !slices.Equal(got, want) || e != api.OK && got != nil {
			t.Fatalf("P21.6: seed %d: %v: Follow from %s of %s answers %s, %d, want %s, %d", seed, g, pen.TellConfig(c), pen.TellEvents(tried), pen.TellEvents(got), int(e), pen.TellEvents(want), int(f))
		}
		met[errorTold(e)]++
		if mostCells(g, g.flow(), c, l) >= api.MaxCells {
			met["full"]++
			continue
		}
		met["not full"]++
		if why := followsFault(g, c, l, end); why != "" {
			t.Fatalf("P21.10: seed %d: %v: from %s, %s: %s", seed, g, pen.TellConfig(c), pen.TellEvents(l), why)
		}
	}
	wantCases(t, met, 30, "error 0", "error 91", "error 92", "full", "not full")
}

// TestWholeRuns: P21.10, of runs from the beginning to where nothing can happen any more.
func TestWholeRuns(t *testing.T) {
	sent, took := 0, 0
	for seed := range 250 {
		w := seeded(10000 + seed)
		g := w.ground()
		if seed < len(grounds()) {
			g = grounds()[seed]
		}
		start := g.flow().Start()
		l, end := w.events(g, start, 600)
		if why := followsFault(g, start, l, end); why != "" {
			t.Fatalf("P21.10: seed %d: %v: %s: %s", seed, g, pen.TellEvents(l), why)
		}
		followed, _ := scale.Follow(g.plan, g.tapes, g.task, start, l, g.bounds...)
		for _, e := range followed {
			switch e.Task {
			case len(g.plan.Tasks):
				took++
			case len(g.plan.Tasks) + len(g.bounds) + 1:
				sent++
			}
		}
	}
	if sent < 300 || took < sent+100 {
		t.Errorf("the tasks took %d records and sent %d", took, sent)
	}
}
