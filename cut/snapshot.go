package cut

import (
	"slices"

	"eddy/api"
	"eddy/fresh"
)

// A stand is how a port stands to the snapshot that was begun last.
type stand int

// Open comes first, so that all ports of an empty snapshot are open.
const (
	open   stand = iota // the marker hasn't come there
	closed              // the marker has come
	held                // the marker has come ahead of the copy, which waits for other ports: nothing may be taken
)

// A snapshot is what is kept of the snapshot that was begun last. The empty one is that of a book to which no marker came.
type snapshot struct {
	now    int
	stands [api.MaxPorts]stand
	copied bool // the copy is made, and its part wasn't handed out
	state  api.State
	pend   []api.Record
	logs   [api.MaxPorts][]api.Record
}

// records tells whether what is taken at a port belongs to its log.
func (s *snapshot) records(port int) bool { return s.copied && s.stands[port] == open }

// copy copies what the task has now, unless the copy is made already, and tells whether it did.
func (s *snapshot) copy(state api.State, pend []api.Record) bool {
	if s.copied {
		return false
	}
	s.copied, s.state, s.pend = true, fresh.State(state), fresh.Records(pend)
	return true
}

// release lets go of the ports that were held for the copy.
func (s *snapshot) release() {
	for port := range s.stands {
		if s.stands[port] == held {
			s.stands[port] = closed
		}
	}
}

func (b *Book) has(port int) bool { return port >= 0 && port < b.ports }

// refusal tells why a marker can't be taken at a port.
func (b *Book) refusal(port, id int) api.Errno {
	switch {
	case !b.has(port):
		return api.ErrCutPort
	case id < 1 || id > api.MaxId:
		return api.ErrCutMark
	case b.Held(port):
		return api.ErrCutHeld
	}
	return api.OK
}

// shut closes an open port, whose marker has come, as the mode asks, and tells whether that made the copy.
func (b *Book) shut(port int, ahead []api.Record, s api.State, pend []api.Record) (copied bool) {
	switch b.mode {
	case api.Overtaking:
		b.logs[port] = append(b.logs[port], fresh.Records(ahead)...)
		fallthrough
	case api.Recorded:
		b.stands[port] = closed
		copied = b.copy(s, pend)
	case api.Aligned:
		b.stands[port] = held
		if b.aligned() {
			copied = b.copy(s, pend)
			b.release()
		}
	}
	return copied
}

// aligned tells whether the marker has come at all regular ports.
func (b *Book) aligned() bool {
	for port := range b.ports {
		if port != b.back && b.stands[port] == open {
			return false
		}
	}
	return true
}

// done tells whether there is a part to which nothing more will belong.
func (b *Book) done() bool { return b.copied && !slices.Contains(b.stands[:b.ports], open) }
