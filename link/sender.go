package link

import (
	"bytes"

	"eddy/api"
)

// Sender: the end of a link at which messages are put.
type Sender struct {
	end
	answered int      // so many messages are, from the first one on
	waiting  [][]byte // the messages behind them
	word     int
}

// NewSender makes the sending end of the link of a lane; window: how many messages go out with one Tick.
func NewSender(lane, window int) (*Sender, api.Errno) {
	d, e := newEnd(lane, window)
	if e != api.OK {
		return nil, e
	}
	return &Sender{end: d}, api.OK
}

// last gives the number of the last message that was put.
func (s *Sender) last() int { return s.answered + len(s.waiting) }

// Put lays a message at the end of what is to be sent.
func (s *Sender) Put(body []byte) api.Errno {
	switch {
	case len(body) > api.MaxMessage:
		return api.ErrLinkLong
	case s.last() >= api.MaxNum:
		return api.ErrLinkEnd
	}
	s.waiting = append(s.waiting, bytes.Clone(body))
	return api.OK
}

// Tick tells the packets that go out now.
func (s *Sender) Tick() [][]byte {
	var packets [][]byte
	for k, message := range s.waiting[:min(len(s.waiting), s.window)] {
		l := letter{kind: dataKind, lane: s.lane, number: s.answered + 1 + k, message: message}
		packets = append(packets, l.packet())
	}
	return packets
}

// Ack takes an answer of the other end.
func (s *Sender) Ack(packet []byte) api.Errno {
	l, e := s.unpack(packet, answerKind)
	if e != api.OK {
		return e
	}
	if l.number == 0 || l.number > s.last()+1 {
		return api.ErrLinkNumber
	}
	// A late answer may want a message that was answered since: it takes nothing back.
	answered := max(s.answered, l.number-1)
	s.waiting = without(s.waiting, answered-s.answered)
	s.answered = answered
	s.word = max(s.word, l.word)
	return api.OK
}

// Open tells how many messages aren't answered.
func (s *Sender) Open() int { return len(s.waiting) }

// Word tells the greatest word of the other end that came with an answer.
func (s *Sender) Word() int { return s.word }
