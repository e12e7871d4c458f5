package witness_test

import (
	"fmt"
	"slices"
	"testing"

	"eddy/api"
	"eddy/pen"
)

// A writer draws trails, grounds and runs.
type writer struct{ *pen.Pen }

func seeded(seed int) *writer { return &writer{pen.Seeded(seed)} }

// ids: few numbers, so that they come again.
const ids = 4

// among lays an entry at some place from a place on.
func (w *writer) among(l []api.Trail, from int, e api.Trail) []api.Trail {
	return slices.Insert(l, w.Between(from, len(l)), e)
}

// snapshot lays a snapshot's copies among entries, and behind them its end.
func (w *writer) snapshot(l []api.Trail, tasks, id int) []api.Trail {
	for task := range tasks {
		l = w.among(l, 0, api.Trail{Kind: api.TrailCopy, Task: task, Id: id})
	}
	behind := 0
	for at, e := range l {
		if e.Kind == api.TrailCopy && e.Id == id {
			behind = at + 1
		}
	}
	return w.among(l, behind, api.Trail{Kind: api.TrailReady, Id: id})
}

// other draws an entry on which no answer hangs.
func (w *writer) other(tasks int) api.Trail {
	id := w.Between(1, ids)
	switch kind := pen.One(w.Pen, 2, 4, 5, 7, 8, 9, 10); kind {
	case api.TrailMark:
		return api.Trail{Kind: kind, Task: w.Below(tasks), Port: w.Below(4), Id: id}
	case api.TrailPart, api.TrailCommit:
		return api.Trail{Kind: kind, Task: w.Below(tasks), Id: id}
	case api.TrailDown:
		return api.Trail{Kind: kind}
	default:
		return api.Trail{Kind: kind, Id: id}
	}
}

// life draws a life: steps, and among them snapshots and other entries.
func (w *writer) life(tasks, most int) []api.Trail {
	var l []api.Trail
	for range w.Below(most + 1) {
		l = append(l, api.Trail{Kind: api.TrailStep, Task: w.Below(tasks), Port: pen.One(w.Pen, 0, 0, 1, 3)})
	}
	for _, id := range w.Order(ids)[:pen.One(w.Pen, 0, 1, 1, 2, 3)] {
		l = w.snapshot(l, tasks, id+1)
	}
	for range w.Below(4) {
		l = w.among(l, 0, w.other(tasks))
	}
	return l
}

// trail draws a trail of some lives, in most cases one of which all can be told.
func (w *writer) trail(tasks, most int) []api.Trail {
	var l []api.Trail
	if w.Below(3) > 0 {
		l = w.life(tasks, most)
	}
	for range pen.One(w.Pen, 0, 1, 2, 3, 6) {
		l = append(l, api.Trail{Kind: api.TrailUp, Id: w.began(l)})
		l = append(l, w.life(tasks, most)...)
	}
	if w.Below(3) == 0 {
		l = w.spoilt(l, tasks)
	}
	return l
}

// began draws the shot at which a life begins: in most cases one that is ready in the trail ahead.
func (w *writer) began(l []api.Trail) int {
	if w.Below(6) == 0 {
		return w.Below(ids + 1)
	}
	shots := []int{0}
	for _, e := range l {
		if e.Kind == api.TrailReady {
			shots = append(shots, e.Id, e.Id)
		}
	}
	return shots[w.Below(len(shots))]
}

// spoilt changes a trail at one place.
func (w *writer) spoilt(l []api.Trail, tasks int) []api.Trail {
	at := w.Below(len(l) + 1)
	if at == len(l) {
		return append(l, w.other(tasks))
	}
	switch w.Below(7) {
	case 0:
		return slices.Delete(l, at, at+1)
	case 1:
		l = w.among(l, 0, l[at])
	case 2:
		e := l[at]
		l = w.among(slices.Delete(l, at, at+1), 0, e)
	case 3:
		if l[at].Id > 0 {
			l[at].Id = w.Between(1, ids)
		}
	case 4:
		if l[at].Kind == api.TrailCopy {
			l[at].Task = w.Below(tasks)
		}
	case 5:
		l = w.among(l, 0, api.Trail{Kind: pen.One(w.Pen, api.TrailReady, api.TrailUp), Id: w.Between(1, ids)})
	case 6:
		l[at] = api.Trail{Kind: w.Below(13), Task: w.Below(tasks + 1), Port: w.Below(5), Id: w.Below(3)}
	}
	return l
}

// questions gives all that can be asked of numbers up to so many.
func questions(numbers int) []question {
	all := []question{{what: "line"}}
	for id := range numbers + 1 {
		all = append(all, question{"split", id}, question{"path", id})
	}
	return all
}

// kindOf names an answer for the count of cases.
func kindOf(q question, answer string) string {
	switch {
	case len(answer) > 2 && answer[:3] == "no ":
		return q.what + ": " + answer
	case spaced(answer) == "" || spaced(answer) == "|":
		return q.what + ": none"
	}
	return q.what + ": some"
}

// TestDrawnTrails: trails of several lives, held against the model.
func TestDrawnTrails(t *testing.T) {
	met := map[string]int{}
	for seed := range 12000 {
		w := seeded(seed)
		tasks := pen.One(w.Pen, 1, 2, 2, 3, 5, api.MaxTasks)
		l := w.trail(tasks, pen.One(w.Pen, 3, 10, 30))
		for _, q := range questions(ids + 1) {
			answer, why := sameAsModel(q, l, tasks)
			if why != "" {
				t.Fatalf("P18.1 to P18.6: seed %d: %s", seed, why)
			}
			met[kindOf(q, answer)]++
		}
		met[fmt.Sprint("lives: ", len(modelLives(l)))]++
	}
	for _, what := range []string{"split", "path", "line"} {
		wantCases(t, met, 500, what+": some", what+": none", what+": no shot", what+": no trail")
	}
	wantCases(t, met, 500, "lives: 1", "lives: 2", "lives: 3", "lives: 4", "lives: 7")
}

// TestAllShortTrails: all rows of some entries, held against the model.
func TestAllShortTrails(t *testing.T) {
	met := map[string]int{}
	for _, x := range []struct {
		from         string
		tasks, count int
	}{
		{"step 0.0, copy 0 1, copy 0 2, ready 1, ready 2, up 0, up 1, up 2", 1, 5},
		{"step 0.0, step 0.1, copy 0 1, ready 1, up 1, down", 1, 6},
		{"step 0.0, step 1.0, copy 0 1, copy 1 1, ready 1, up 1", 2, 7},
		{"step 0.0, step 1.0, step 2.0, copy 0 1, copy 1 1, copy 2 1, ready 1", 3, 6},
		{"step 0.0, step 1.0, mark 0.0 1, step 1.4, {0 0 0 0}, up 10000, ready 1", 2, 4},
	} {
		for count := range x.count + 1 {
			for l := range pen.Rows(pen.ReadTrail(x.from), count) {
				for _, q := range []question{asked("line"), asked("split 1"), asked("path 1"), asked("split 2")} {
					answer, why := sameAsModel(q, l, x.tasks)
					if why != "" {
						t.Fatalf("P18.1 to P18.6: %s", why)
					}
					met[kindOf(q, answer)]++
				}
			}
		}
	}
	for _, what := range []string{"split", "path", "line"} {
		wantCases(t, met, 100, what+": some", what+": none", what+": no shot", what+": no trail")
	}
}
