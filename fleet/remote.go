package fleet

import (
	"eddy/api"
	"eddy/crew"
	"eddy/lane"
	"eddy/link"
)

// A sending lets a packet fly from one machine to another; if it answers an error, the packet is lost.
type sending func(from, to int, packet []byte) api.Errno

// A remote is the lane of an edge between two machines: a link, and at its receiving end the lane from which the task there takes.
type remote struct {
	*lane.Lane
	way      *lane.Lane // what was put at the sending end and hasn't come in
	near     *link.Sender
	far      *link.Receiver
	from, to int // the machines
	send     sending
	room     int // 0: without a bound
	records  int // so many were in the lane at first, or were put since
	worked   int // so many of its records were worked
	put      int // so many messages were put
	came     int // so many messages came in
}

// Lay puts an item at the sending end. The link refuses nothing: no record is as long as a message may be, and Spent keeps a number for each marker.
func (r *remote) Lay(x api.Item) {
	handOn(x, r.near.Put)
	r.put++
	if x.Mark == 0 {
		r.records++
	}
	// Something that spoilt bits made can have come in in its place already.
	if r.put > r.came {
		r.way.Put(x)
	}
}

// Take takes what is first at the receiving end. A record is taken where it is worked, and there alone: then there is more room.
func (r *remote) Take() (api.Item, bool) {
	x, ok := r.Lane.Take()
	if ok && x.Mark == 0 {
		r.worked++
		r.far.Tell(r.worked)
	}
	return x, ok
}

// Full tells whether there is no room, as far as the sending end knows.
func (r *remote) Full() bool { return r.room > 0 && r.records-r.near.Word() >= r.room }

// Spent tells whether the numbers that are left are kept for markers.
func (r *remote) Spent() bool { return r.put >= api.MaxNum-api.MaxId }

// Records tells the records at the receiving end, and behind them those on their way.
func (r *remote) Records() []api.Record {
	return append(crew.Records(r.List()), crew.Records(r.way.List())...)
}

// tick lets both ends send: how many packets.
func (r *remote) tick() int {
	packets := r.near.Tick()
	for _, packet := range packets {
		r.send(r.from, r.to, packet)
	}
	r.send(r.to, r.from, r.far.Answer())
	return len(packets) + 1
}

// answered takes an answer at the sending end.
func (r *remote) answered(packet []byte) { r.near.Ack(packet) }

// comes takes a data packet at the receiving end.
func (r *remote) comes(packet []byte) {
	answer, e := r.far.Take(packet)
	if e != api.OK {
		return
	}
	r.send(r.to, r.from, answer)
	each(r.far.Next, r.arrives)
}

// each hands on what comes out of an end, as long as there is something.
func each(next func() ([]byte, bool), hand func(message []byte)) {
	for message, ok := next(); ok; message, ok = next() {
		hand(message)
	}
}

// arrives lays a message into the lane; one that spoilt bits made may be no item.
func (r *remote) arrives(message []byte) {
	r.came++
	r.way.Take()
	if x, ok := itemOf(message); ok {
		r.Lane.Put(x)
	}
}
