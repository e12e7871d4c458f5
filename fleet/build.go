package fleet

import (
	"eddy/api"
	"eddy/crew"
	"eddy/lane"
	"eddy/link"
)

// arePlaces tells whether each of so many tasks has just one machine.
func arePlaces(place []int, tasks int) bool {
	for _, machine := range place {
		if machine < 0 || machine >= api.MaxMachines {
			return false
		}
	}
	return len(place) == tasks
}

// A builder makes the lanes of a fleet, and gathers those that are remote.
type builder struct {
	edges   []api.Edge
	place   []int
	send    sending
	remotes map[int]*remote
}

// lane makes the lane of an edge: a local one, or one between two machines.
func (b *builder) lane(edge, room int, begun []api.Record) (crew.Lane, api.Errno) {
	from, to := b.place[b.edges[edge].From], b.place[b.edges[edge].To]
	if from == to {
		return crew.Local(edge, room, begun)
	}
	r := &remote{from: from, to: to, send: b.send, room: room, records: len(begun)}
	if e := r.open(edge, begun); e != api.OK {
		return nil, e
	}
	b.remotes[edge] = r
	return r, api.OK
}

// open makes the ends of the link of an edge, and the lane at the receiving one.
func (r *remote) open(edge int, begun []api.Record) (e api.Errno) {
	if r.Lane, e = crew.Filled(0, begun); e != api.OK {
		return e
	}
	if r.way, e = lane.New(0); e != api.OK {
		return e
	}
	if r.near, e = link.NewSender(edge, api.MaxWindow); e != api.OK {
		return e
	}
	r.far, e = link.NewReceiver(edge, api.MaxWindow)
	return e
}
