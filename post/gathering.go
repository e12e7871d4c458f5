package post

import (
	"slices"

	"eddy/api"
)

// A status is where a snapshot stands.
type status uint8

const (
	unknown status = iota
	underWay
	ready
	complete
	aborted
)

// What a pick did.
const (
	nothing = iota // the inbox was empty
	another        // others are wanted
	last           // the shot is ready
)

// A letter is a task's part on its way through the inbox.
type letter struct {
	task int
	part api.Part
}

// A place is where a task's part for the snapshot under way is.
type place uint8

// Away comes first, so that in an empty gathering no part has come.
const (
	away place = iota
	waiting
	gathered
)

// A gathering is what is kept of the parts for the snapshot under way; it is empty, if none is.
type gathering struct {
	places [api.MaxTasks]place // nobody can look into the inbox: so what waits there stands here too
	parts  [api.MaxTasks]api.Part
}

// next gives the number that no snapshot has had.
func (p *Post) next() int { return p.first + len(p.statuses) }

func (p *Post) status(id int) status {
	if id < p.first || id >= p.next() {
		return unknown
	}
	return p.statuses[id-p.first]
}

// under gives the number of the snapshot under way, which can only be the one that was begun last; 0: none is.
func (p *Post) under() int {
	id := p.next() - 1
	if p.status(id) != underWay {
		return 0
	}
	return id
}

// refusal tells why a part can't be handed in.
func (p *Post) refusal(id, task int) api.Errno {
	under := p.under()
	switch {
	case task < 0 || task >= p.tasks:
		return api.ErrPostTask
	case under == 0 || id != under:
		return api.ErrPostOther
	case p.places[task] != away:
		return api.ErrPostTwice
	}
	return api.OK
}

// wanted gives the tasks whose parts aren't gathered.
func (p *Post) wanted() []int {
	var tasks []int
	for task := range p.tasks {
		if p.places[task] != gathered {
			tasks = append(tasks, task)
		}
	}
	return tasks
}

// gather keeps a part that was picked, and gives the shot with the last one.
func (p *Post) gather(l letter) (int, api.Shot) {
	p.places[l.task], p.parts[l.task] = gathered, l.part
	if len(p.wanted()) > 0 {
		return another, api.Shot{}
	}
	// The caller has the parts from now on: nothing of them is kept.
	shot := api.Shot{Id: p.under(), Sum: p.sum, Parts: slices.Clone(p.parts[:p.tasks])}
	p.end(ready)
	return last, shot
}

// empty lets go of the parts that wait in the inbox.
func (p *Post) empty() {
	for {
		select {
		case <-p.inbox:
		default:
			return
		}
	}
}

// end lets the snapshot under way be so no more, and lets go of what was gathered for it.
func (p *Post) end(became status) {
	p.statuses[len(p.statuses)-1] = became
	p.gathering = gathering{}
}
