package witness_test

import (
	"eddy/api"
	"eddy/equal"
	"eddy/flow"
)

// The model is a second reading of the chapter: it cuts the whole trail in lives, asks of each event where its task's copy stands, goes back by recursion, and makes the exchanges as they are told.

type span struct{ low, high int }

func (s span) has(n int) bool { return s.low <= n && n <= s.high }

// modelCan holds each entry against the chapter's table.
func modelCan(l []api.Trail, tasks int) bool {
	zero, task, port, shot := span{0, 0}, span{0, tasks - 1}, span{0, 3}, span{1, 9999}
	table := [][3]span{
		1: {task, port, zero}, 2: {task, port, shot}, 3: {task, zero, shot}, 4: {task, zero, shot},
		5: {zero, zero, shot}, 6: {zero, zero, shot}, 7: {zero, zero, shot}, 8: {zero, zero, shot},
		9: {task, zero, {0, 1<<63 - 1}}, 10: {zero, zero, zero}, 11: {zero, zero, {0, 9999}},
	}
	for _, e := range l {
		if !(span{1, 11}).has(e.Kind) {
			return false
		}
		if row := table[e.Kind]; !row[0].has(e.Task) || !row[1].has(e.Port) || !row[2].has(e.Id) {
			return false
		}
	}
	return span{1, 12}.has(tasks)
}

type modelLife struct {
	began   int
	entries []api.Trail
}

// modelLives cuts a trail in lives.
func modelLives(l []api.Trail) []modelLife {
	lives := []modelLife{{}}
	for _, e := range l {
		if e.Kind == 11 {
			lives = append(lives, modelLife{began: e.Id})
			continue
		}
		last := &lives[len(lives)-1]
		last.entries = append(last.entries, e)
	}
	return lives
}

// places gives where entries of a kind with an id stand, of a task or (-1) of any.
func (f modelLife) places(kind, task, id int) []int {
	var all []int
	for at, e := range f.entries {
		if e.Kind == kind && e.Id == id && (task < 0 || e.Task == task) {
			all = append(all, at)
		}
	}
	return all
}

// modelEvent is an event of a life up to a snapshot's end.
type modelEvent struct {
	event api.Event
	after bool
}

// events gives the events of a life in which a snapshot is ready; false, if its copies aren't as they must be.
func (f modelLife) events(id, tasks int) ([]modelEvent, bool) {
	end := f.places(6, -1, id)[0]
	ahead := modelLife{f.began, f.entries[:end]}
	copies := make([]int, tasks)
	for task := range copies {
		all := ahead.places(3, task, id)
		if len(all) != 1 {
			return nil, false
		}
		copies[task] = all[0]
	}
	var all []modelEvent
	for at, e := range ahead.entries {
		if e.Kind == 1 {
			all = append(all, modelEvent{api.Event{Task: e.Task, Port: e.Port}, at > copies[e.Task]})
		}
	}
	return all, true
}

// side gives the events on one side of the copies.
func side(all []modelEvent, after bool) []api.Event {
	var l []api.Event
	for _, e := range all {
		if e.after == after {
			l = append(l, e.event)
		}
	}
	return l
}

// newest gives the last of some lives in which a snapshot is ready, -1 if it is so in none.
func newest(lives []modelLife, id int) int {
	for n := len(lives) - 1; n >= 0; n-- {
		if len(lives[n].places(6, -1, id)) > 0 {
			return n
		}
	}
	return -1
}

// modelEvents gives the events of a snapshot's life.
func modelEvents(l []api.Trail, id, tasks int) ([]modelEvent, api.Errno) {
	if !modelCan(l, tasks) {
		return nil, api.ErrWitTrail
	}
	lives := modelLives(l)
	n := newest(lives, id)
	if n < 0 {
		return nil, api.ErrWitShot
	}
	all, ok := lives[n].events(id, tasks)
	if !ok {
		return nil, api.ErrWitTrail
	}
	return all, api.OK
}

func modelSplit(l []api.Trail, id, tasks int) ([]api.Event, []api.Event, api.Errno) {
	all, e := modelEvents(l, id, tasks)
	return side(all, false), side(all, true), e
}

// way gives the way to a snapshot that is ready in some lives.
func way(lives []modelLife, id, tasks int) ([]api.Event, api.Errno) {
	if id == 0 {
		return nil, api.OK
	}
	n := newest(lives, id)
	if n < 0 {
		return nil, api.ErrWitShot
	}
	own, ok := lives[n].events(id, tasks)
	if !ok {
		return nil, api.ErrWitTrail
	}
	l, e := way(lives[:n], lives[n].began, tasks)
	if e != api.OK {
		return nil, e
	}
	return append(l, side(own, false)...), api.OK
}

func modelLine(l []api.Trail, tasks int) ([]api.Event, api.Errno) {
	if !modelCan(l, tasks) {
		return nil, api.ErrWitTrail
	}
	lives := modelLives(l)
	last := len(lives) - 1
	all, e := way(lives[:last], lives[last].began, tasks)
	if e != api.OK {
		return nil, e
	}
	for _, entry := range lives[last].entries {
		if entry.Kind == 1 {
			all = append(all, api.Event{Task: entry.Task, Port: entry.Port})
		}
	}
	return all, api.OK
}

func modelPath(l []api.Trail, id, tasks int) ([]int, api.Errno) {
	all, e := modelEvents(l, id, tasks)
	if e != api.OK {
		return nil, e
	}
	if len(all) > 2000 {
		return nil, api.ErrWitRun
	}
	var places []int
	for i := 0; i+1 < len(all); {
		if !all[i].after || all[i+1].after {
			i++
			continue
		}
		all[i], all[i+1] = all[i+1], all[i]
		places = append(places, i)
		i = 0
	}
	return places, api.OK
}

// steps lets events happen one by one; false, if one can't.
func steps(f *flow.Flow, c api.Config, l []api.Event) (api.Config, bool) {
	for _, event := range l {
		var e api.Errno
		if c, e = f.Step(c, event); e != api.OK {
			return api.Config{}, false
		}
	}
	return c, true
}

func modelProve(f *flow.Flow, start, shot, end api.Config, l []api.Trail, id, tasks int) api.Errno {
	before, after, e := modelSplit(l, id, tasks)
	if e != api.OK {
		return e
	}
	if f.Fits(start) != api.OK {
		return api.ErrWitRun
	}
	middle, ok := steps(f, start, before)
	if !ok {
		return api.ErrWitRun
	}
	if !equal.Config(middle, shot) {
		return api.ErrWitCut
	}
	last, ok := steps(f, middle, after)
	if !ok {
		return api.ErrWitRun
	}
	if !equal.Config(last, end) {
		return api.ErrWitEnd
	}
	return api.OK
}
