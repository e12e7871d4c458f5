package crew

import (
	"eddy/api"
	"eddy/lane"
)

// A Lane is what carries items from a task to a task over an edge, wherever the two are.
type Lane interface {
	feed
	// Lay lays an item at the end: a record where the lane is neither full nor spent, a marker at any time.
	Lay(x api.Item)
	// Full tells whether a record finds no room now.
	Full() bool
	// Spent tells whether no record can be laid any more, room or not.
	Spent() bool
	// List tells what has come so far that it can be taken.
	List() []api.Item
	// Records tells all records that were laid and weren't taken, markers left out.
	Records() []api.Record
}

// A local is a lane whose items can be taken as soon as they are laid.
type local struct{ *lane.Lane }

// Local makes the lane of an edge whose two tasks stand beside one another. Such lanes are made alike, whatever the edge's number is.
func Local(edge, room int, begun []api.Record) (Lane, api.Errno) {
	l, e := Filled(room, begun)
	if e != api.OK {
		return nil, e
	}
	return local{l}, api.OK
}

// Filled makes a lane of a bound (0: without one) in which some records are, be they more than the bound.
func Filled(room int, begun []api.Record) (*lane.Lane, api.Errno) {
	l, e := lane.New(room)
	if e != api.OK {
		return nil, e
	}
	return l, l.Refill(begun)
}

func (l local) Lay(x api.Item) { l.Put(x) }

func (l local) Spent() bool { return false }

func (l local) Records() []api.Record { return Records(l.List()) }

// Records leaves the markers out.
func Records(items []api.Item) []api.Record {
	var all []api.Record
	for _, x := range items {
		if x.Mark == 0 {
			all = append(all, x.Rec)
		}
	}
	return all
}
