package link

import (
	"eddy/api"
	"eddy/frame"
	"eddy/number"
)

// The kinds of letters, each told by the byte with which a packet's body begins.
const (
	dataKind   = 0x44
	answerKind = 0x41
)

// letter: what a packet says.
type letter struct {
	kind    byte
	lane    int
	number  int    // of the message; in an answer: the one that is wanted
	word    int    // of an answer
	message []byte // of data
}

// piece: a number from least to most or, if it is none, all bytes that are left, at most so many.
type piece struct {
	number      *int
	least, most int
}

// pieces tells what stands in a body behind the byte of l's kind, one behind the other; nothing, if there is no such kind.
func (l *letter) pieces() []piece {
	lane := piece{&l.lane, 0, api.MaxEdges - 1}
	switch l.kind {
	case dataKind:
		return []piece{lane, {&l.number, 1, api.MaxNum}, {nil, 0, api.MaxMessage}}
	case answerKind:
		return []piece{lane, {&l.number, 0, api.MaxNum + 1}, {&l.word, 0, api.MaxNum}, {nil, 0, 0}}
	}
	return nil
}

// read tells what a packet says; false: the bytes are no packet. The message is a piece of new memory that nobody else has.
func read(packet []byte) (letter, bool) {
	left, e := frame.Exact(packet)
	if e != api.OK || len(left) == 0 {
		return letter{}, false
	}
	l := letter{kind: left[0]}
	left = left[1:]
reading:
	for _, p := range l.pieces() {
		switch {
		case p.number != nil:
			n, size, e := number.Lead(left, p.most)
			if e != api.OK || n < p.least {
				break reading
			}
			*p.number, left = n, left[size:]
		case len(left) > p.most:
			break reading
		default:
			l.message = left
			return l, true
		}
	}
	return letter{}, false
}

// packet lays what a letter says in a frame.
func (l letter) packet() []byte {
	body := []byte{l.kind}
	for _, p := range l.pieces() {
		if p.number != nil {
			body = number.Append(body, *p.number)
		}
	}
	// The longest body is far below MaxBody: Wrap refuses none.
	b, _ := frame.Wrap(append(body, l.message...))
	return b
}
