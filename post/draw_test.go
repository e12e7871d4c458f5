package post_test

import (
	"fmt"
	"math"

	"eddy/api"
	"eddy/pen"
)

// A writer draws calls. What it hands in differs from call to call.
type writer struct{ *pen.Wild }

func seeded(seed int) *writer { return &writer{pen.SeededWild(seed)} }

func (w *writer) kind() kind {
	return kind{
		tasks: pen.One(w.Pen, 1, 1, 2, 2, 3, 4, w.Between(1, api.MaxTasks)),
		first: pen.One(w.Pen, 1, 1, 2, 7, w.Between(1, api.MaxId+1), api.MaxId-w.Below(5), api.MaxId+1),
		sum:   pen.One(w.Pen, 0, 1, 99, math.MaxUint32, uint32(w.Below(1<<32))),
	}
}

// task draws a task: in most cases one whose part isn't here.
func (w *writer) task(m *model) int {
	switch w.Below(10) {
	case 0:
		return pen.One(w.Pen, -1, m.tasks, m.tasks, api.MaxTasks, math.MinInt, math.MaxInt)
	case 1, 2:
		return w.Below(m.tasks)
	}
	gathered, waiting := m.handed()
	for _, task := range w.Order(m.tasks) {
		if among(gathered, task) < 0 && among(waiting, task) < 0 {
			return task
		}
	}
	return w.Below(m.tasks)
}

// id draws a number: in most cases that of the snapshot that was begun last.
func (w *writer) id(m *model) int {
	switch w.Below(20) {
	case 0:
		return pen.One(w.Pen, 0, -1, m.first-1, m.next(), m.next()+1, api.MaxId+1, math.MinInt, math.MaxInt)
	case 1, 2:
		return w.Between(m.first, m.next())
	}
	return m.next() - 1
}

// settled draws a number to be settled: in most cases that of a snapshot that is ready, if there is one.
func (w *writer) settled(m *model) int {
	for id := m.first; id < m.next(); id++ {
		if m.Status(id) == 2 && w.Below(3) > 0 {
			return id
		}
	}
	return w.id(m)
}

// call draws a call of a coordinator that stands as the model does.
func (w *writer) call(m *model) call {
	switch n := w.Below(40); {
	case n < 5:
		return call{What: "trigger"}
	case n < 21:
		return call{What: "hand", Id: w.id(m), Task: w.task(m), Part: w.Part(2)}
	case n < 32:
		return call{What: "pick"}
	// The more tasks there are, the longer a snapshot takes.
	case n < 34 && w.Below(m.tasks) == 0:
		return call{What: "abort"}
	case n < 38:
		return call{What: "settle", Id: w.settled(m), Ok: w.Below(2) == 0}
	case n < 39:
		return call{What: "status", Id: w.id(m)}
	}
	return call{What: "open"}
}

// script draws calls, as a coordinator of the kind answers them.
func (w *writer) script(k kind, count int) []call {
	m := &model{kind: k}
	var all []call
	for range count {
		c := w.call(m)
		c.of(m)
		all = append(all, c)
	}
	return all
}

// lead draws the calls that make a snapshot ready: the parts come in some order, and are picked in between.
func (w *writer) lead(k kind, id int) []call {
	all := []call{{What: "trigger"}}
	waiting := 0
	for _, task := range w.Order(k.tasks) {
		all = append(all, call{What: "hand", Id: id, Task: task, Part: w.Part(3)})
		for waiting++; waiting > 0 && w.Below(2) == 0; waiting-- {
			all = append(all, call{What: "pick"})
		}
	}
	for range waiting {
		all = append(all, call{What: "pick"})
	}
	return all
}

// lastOf writes the last calls of a script.
func lastOf(script []call) string {
	return fmt.Sprint(len(script), " calls, the last of them ", script[max(0, len(script)-8):])
}
