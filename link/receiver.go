package link

import "eddy/api"

// Receiver: the end of a link at which messages come out.
type Receiver struct {
	end
	wanted int            // the number of the message that is wanted
	kept   map[int][]byte // what came ahead of its turn, by number
	ready  [][]byte       // in order, not given yet
	word   int
}

// NewReceiver makes the receiving end of the link of a lane.
func NewReceiver(lane, window int) (*Receiver, api.Errno) {
	d, e := newEnd(lane, window)
	if e != api.OK {
		return nil, e
	}
	return &Receiver{end: d, wanted: 1, kept: map[int][]byte{}}, api.OK
}

// Take takes a packet of the other end: the answer to it.
func (r *Receiver) Take(packet []byte) ([]byte, api.Errno) {
	l, e := r.unpack(packet, dataKind)
	if e != api.OK {
		return nil, e
	}
	r.keep(l.number, l.message)
	r.makeReady()
	return r.Answer(), api.OK
}

// keep keeps a message, if it is within the window and isn't kept yet.
func (r *Receiver) keep(number int, message []byte) {
	if number < r.wanted || number >= r.wanted+r.window {
		return
	}
	if _, kept := r.kept[number]; !kept {
		r.kept[number] = message
	}
}

// makeReady lays out what is kept, as long as it is its turn.
func (r *Receiver) makeReady() {
	for {
		message, kept := r.kept[r.wanted]
		if !kept {
			return
		}
		delete(r.kept, r.wanted)
		r.ready = append(r.ready, message)
		r.wanted++
	}
}

// Next gives the next message, in order.
func (r *Receiver) Next() ([]byte, bool) {
	if len(r.ready) == 0 {
		return nil, false
	}
	message := r.ready[0]
	r.ready = without(r.ready, 1)
	return message, true
}

// Tell sets the word that goes with the answers; it never falls.
func (r *Receiver) Tell(word int) { r.word = max(r.word, min(word, api.MaxNum)) }

// Answer tells the answer as it would be now.
func (r *Receiver) Answer() []byte {
	return letter{kind: answerKind, lane: r.lane, number: r.wanted, word: r.word}.packet()
}
