package witness

import (
	"slices"

	"eddy/api"
)

// life: what stands between two comings up. It began at a shot of the trail ahead of it, or at the beginning (0).
type life struct {
	began   int
	ahead   []api.Trail
	entries []api.Trail
}

// lastLife gives the last life of a trail.
func lastLife(l []api.Trail) life {
	for at, entry := range slices.Backward(l) {
		if entry.Kind == api.TrailUp {
			return life{began: entry.Id, ahead: l[:at], entries: l[at+1:]}
		}
	}
	return life{entries: l}
}

// lifeOf gives the last life in which a snapshot got ready, up to where it first did; false, if it never did.
func lifeOf(l []api.Trail, id int) (life, bool) {
	ready := api.Trail{Kind: api.TrailReady, Id: id}
	for at, entry := range slices.Backward(l) {
		if entry == ready {
			found := lastLife(l[:at+1])
			found.entries = found.entries[:slices.Index(found.entries, ready)]
			return found, true
		}
	}
	return life{}, false
}

// cut: the life of a snapshot, up to where it was ready, with its events on both sides of the copies.
type cut struct {
	life
	before, after []api.Event
}

// lay lays an event at the end of its side.
func (c *cut) lay(event api.Event, copied bool) {
	if copied {
		c.after = append(c.after, event)
	} else {
		c.before = append(c.before, event)
	}
}

// cutOf finds a snapshot in a trail.
func cutOf(l []api.Trail, id, tasks int) (cut, api.Errno) {
	if !canBe(l, tasks) {
		return cut{}, api.ErrWitTrail
	}
	return newReader(tasks).read(l, id)
}

// reader: what is kept while lives are read: by task, how many copies were met in the one that is read now.
type reader struct {
	copies []int
}

func newReader(tasks int) reader { return reader{copies: make([]int, tasks)} }

// read finds a snapshot in a trail that can be.
func (r reader) read(l []api.Trail, id int) (cut, api.Errno) {
	found, ok := lifeOf(l, id)
	if !ok {
		return cut{}, api.ErrWitShot
	}
	c := cut{life: found}
	clear(r.copies)
	for _, entry := range found.entries {
		event := eventOf(entry)
		switch {
		case entry == api.Trail{Kind: api.TrailCopy, Task: entry.Task, Id: id}:
			r.copies[entry.Task]++
		case entry == stepOf(event):
			c.lay(event, r.copies[entry.Task] > 0)
		}
	}
	if slices.ContainsFunc(r.copies, func(count int) bool { return count != 1 }) {
		return cut{}, api.ErrWitTrail
	}
	return c, api.OK
}

// exchanges tells the places at which neighbours of a run change places till the before events stand in front, the first of them first. It turns the run round itself.
func exchanges(run, before []api.Event) []int {
	var places []int
	for to, event := range before {
		// A task's before events stand ahead of its after ones, and those that are in front already are passed over: so the first that is equal is the event itself, and all between are after events.
		for at := to + slices.Index(run[to:], event); at > to; at-- {
			run[at-1], run[at] = run[at], run[at-1]
			places = append(places, at-1)
		}
	}
	return places
}
