// Package crew: the tasks of a plan at work, with their books, the lanes between them and the coordinator, whatever the lanes are: what packages runner and fleet have in common. It is no layer.
package crew

import (
	"slices"

	"eddy/api"
	"eddy/fresh"
	"eddy/lane"
	"eddy/post"
)

// Crew: tasks, lanes, books, coordinator.
type Crew struct {
	mode     int
	tasks    []*task
	sinks    []*task
	lanes    []Lane       // by edge
	controls []*lane.Lane // by source
	post     *post.Post
	trail    []api.Trail
}

// Pick lets a task take what is at a port: what it did.
func (c *Crew) Pick(task, port int) int {
	p := &pick{Crew: c, task: c.taskAt(task), port: port}
	for _, m := range moves() {
		if m.fits(p) {
			return m.does(p)
		}
	}
	return api.DidNothing
}

// Trigger begins a snapshot: its number.
func (c *Crew) Trigger() (int, api.Errno) {
	id, e := c.post.Trigger()
	if e != api.OK {
		return 0, e
	}
	for _, l := range c.controls {
		l.Put(api.Item{Mark: id})
	}
	c.tell(api.Trail{Kind: api.TrailTrigger, Id: id})
	return id, api.OK
}

// Post lets the coordinator take one part: the shot, if it is ready; what it did.
func (c *Crew) Post() (api.Shot, int) {
	switch did, shot := c.post.Pick(); did {
	case 1:
		return api.Shot{}, api.DidAck
	case 2:
		c.tell(api.Trail{Kind: api.TrailReady, Id: shot.Id})
		return shot, api.DidReady
	}
	return api.Shot{}, api.DidEmpty
}

// Abort gives the snapshot up that is under way: its number.
func (c *Crew) Abort() (int, api.Errno) {
	id, e := c.post.Abort()
	if e != api.OK {
		return 0, e
	}
	c.tell(api.Trail{Kind: api.TrailAbort, Id: id})
	return id, api.OK
}

// Settle lets the coordinator know whether a shot that was ready is stored.
func (c *Crew) Settle(id int, ok bool) api.Errno { return c.post.Settle(id, ok) }

// Commit lets the sinks know how many of their records are committed.
func (c *Crew) Commit(counts []int) {
	for k, sink := range c.sinks[:min(len(c.sinks), len(counts))] {
		sink.committed = min(max(counts[k], 0), len(sink.output))
	}
}

// Under tells the snapshot under way (0: none) and the tasks whose parts are still to be taken.
func (c *Crew) Under() (int, []int) { return c.post.Open() }

// Config tells the configuration, without markers.
func (c *Crew) Config() api.Config {
	var now api.Config
	for _, t := range c.tasks {
		now.States = append(now.States, fresh.State(t.state))
	}
	for _, l := range c.lanes {
		now.Lanes = append(now.Lanes, l.Records())
	}
	for _, sink := range c.sinks {
		now.Outs = append(now.Outs, fresh.Records(sink.output))
	}
	return now
}

// Here tells, by edge, how many items have come so far that they can be taken.
func (c *Crew) Here() []int {
	var all []int
	for _, l := range c.lanes {
		all = append(all, len(l.List()))
	}
	return all
}

// Trail tells all that happened.
func (c *Crew) Trail() []api.Trail { return slices.Clone(c.trail) }

func (c *Crew) tell(entry api.Trail) { c.trail = append(c.trail, entry) }

// taskAt gives a task by its number; nil: there is none.
func (c *Crew) taskAt(number int) *task {
	if number < 0 || number >= len(c.tasks) {
		return nil
	}
	return c.tasks[number]
}
