package witness_test

import (
	"fmt"
	"testing"

	"eddy/api"
	"eddy/pen"
)

// A kept is a shot that got ready in some life, with the configuration at which that life began.
type kept struct {
	shot
	start api.Config
}

// A history is a run over several lives, each of which begins at the newest shot that was stored, as those of an engine do. Its trail is that of all lives.
type history struct {
	ground
	mode   int
	now    *run
	trail  []api.Trail
	told   int // how many entries of the run that is going on are in the trail
	stored kept
	ready  map[int]kept // of each number, the last one that got ready
	met    map[string]int
}

func (h *history) tell(kind, task, id int) {
	h.trail = append(h.trail, api.Trail{Kind: kind, Task: task, Id: id})
}

// gather lays what the run has told since the last time into the trail.
func (h *history) gather() {
	l := h.now.Trail()
	h.trail = append(h.trail, l[h.told:]...)
	h.told = len(l)
}

// comesUp begins a life. Where nothing of a snapshot came to the disk, its number is given again.
func (h *history) comesUp(w *writer) {
	start := h.Start()
	if h.stored.id > 0 {
		start = h.stored.cut
	}
	h.now, h.told = h.begins(h.mode, start, h.stored.id+1+w.Below(2)), 0
	// A trail may also begin without the first coming up.
	if len(h.trail) > 0 || w.Below(3) > 0 {
		h.tell(api.TrailUp, 0, h.stored.id)
	}
	h.met[fmt.Sprint("begins at a shot: ", h.stored.id > 0)]++
	if h.stored.id > 0 {
		h.commits(start)
	}
}

// commits lets the outputs of a configuration be committed.
func (h *history) commits(c api.Config) {
	var counts []int
	for k, sink := range h.sh.Sinks {
		counts = append(counts, len(c.Outs[k]))
		h.tell(api.TrailCommit, sink, len(c.Outs[k]))
	}
	h.now.Commit(counts)
}

// store lets the shot that has just got ready be stored, be given up, or be lost with a fall; it tells whether the machine stands.
func (h *history) store(w *writer) bool {
	h.gather()
	s := h.now.shots[len(h.now.shots)-1]
	if h.ready[s.id].id > 0 {
		h.met["a number comes twice"]++
	}
	h.ready[s.id] = kept{s, h.now.start}
	switch w.Below(4) {
	case 0:
		h.now.Settle(s.id, false)
		h.tell(api.TrailAbort, 0, s.id)
	case 1:
		h.met["lost with a fall"]++
		return false
	default:
		h.now.Settle(s.id, true)
		h.tell(api.TrailComplete, 0, s.id)
		h.stored = h.ready[s.id]
		h.commits(s.cut)
	}
	return true
}

// lives draws a life, and tells what is wrong.
func (h *history) lives(w *writer) string {
	h.comesUp(w)
	p := w.pace(h.ground)
	for range w.Between(20, 140) * h.tasks() {
		ready := p.step(h.now)
		if ready && !h.store(w) {
			break
		}
		if ready || w.Below(30) == 0 {
			if why := h.lineFault(); why != "" {
				return why
			}
		}
	}
	return h.lineFault()
}

// lineFault tells where the trail's line doesn't lead from the very beginning to where the run stands.
func (h *history) lineFault() string {
	h.gather()
	l, e := program().line(h.trail, h.tasks())
	if e != api.OK {
		return "P18.10: Line answers " + errorTold(e)
	}
	if why := h.wholeFault(h.Start(), h.now.Config(), l); why != "" {
		return "P18.10: " + why
	}
	if want, e := modelLine(h.trail, h.tasks()); e != api.OK || pen.TellEvents(l) != pen.TellEvents(want) {
		return "P18.5: Line answers " + pen.TellEvents(l) + ", want " + told(e, pen.TellEvents(want))
	}
	h.met[fmt.Sprint("lives on the way: ", min(h.onTheWay(), 4))]++
	return ""
}

// onTheWay counts the lives of which the line is made.
func (h *history) onTheWay() int {
	lives := modelLives(h.trail)
	count := 1
	for n := len(lives) - 1; lives[n].began > 0; count++ {
		n = newest(lives[:n], lives[n].began)
	}
	return count
}

// TestLinesOfSeveralLives: runs of a runner, each of which begins where an earlier shot stood.
func TestLinesOfSeveralLives(t *testing.T) {
	met := map[string]int{}
	for seed := range 200 {
		for mode := api.Aligned; mode <= api.Overtaking; mode++ {
			w := seeded(seed)
			h := &history{ground: w.ground(), mode: mode, ready: map[int]kept{}, met: met}
			for n := range w.Between(2, 6) {
				if why := h.lives(w); why != "" {
					t.Fatalf("seed %d, life %d: %v in mode %d: %s: %s", seed, n, h.ground, mode, pen.TellTrail(h.trail), why)
				}
				if h.tell(api.TrailDown, 0, 0); w.Below(2) == 0 {
					// It falls again while it comes up.
					h.tell(api.TrailUp, 0, h.stored.id)
					h.tell(api.TrailDown, 0, 0)
				}
			}
			for id, k := range h.ready {
				if e := program().prove(h.Flow, k.start, k.cut, k.end, h.trail, id, h.tasks()); e != api.OK {
					t.Fatalf("P18.8: seed %d: %v in mode %d: %s: Prove of %d answers %s", seed, h.ground, mode, pen.TellTrail(h.trail), id, errorTold(e))
				}
			}
		}
	}
	wantCases(t, met, 100, "begins at a shot: true", "begins at a shot: false", "a number comes twice", "lost with a fall",
		"lives on the way: 1", "lives on the way: 2", "lives on the way: 3", "lives on the way: 4")
}
