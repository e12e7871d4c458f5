package link_test

import (
	"bytes"
	"slices"

	"eddy/api"
	"eddy/frame"
)

// said: what a packet says.
type said struct {
	answer  bool
	lane    int
	number  int // of the message, or the next one that is wanted
	word    int
	message string
}

// body writes what a packet says.
func (s said) body() []byte {
	if s.answer {
		return answerBody(s.lane, s.number, s.word)
	}
	return dataBody(s.lane, s.number, s.message)
}

// fits tells whether all numbers are within their bounds.
func (s said) fits() bool {
	if s.lane > lanes-1 {
		return false
	}
	if s.answer {
		return s.number <= mostNumber+1 && s.word <= mostNumber && s.message == ""
	}
	return s.number >= 1 && s.number <= mostNumber && len(s.message) <= mostMessage
}

// loose reads a number of any number of groups; what is missing is 0, and what is too great is cut off.
func loose(b []byte) (int, []byte) {
	n := 0
	for k, c := range b {
		if k < 6 {
			n += int(c%128) << (7 * k)
		}
		if c < 128 {
			return n, b[k+1:]
		}
	}
	return n, nil
}

// understood is a second, plain reading of P22.1: bytes are read without any question; they are a packet if what was read is written just so, and fits.
func understood(packet []byte) (said, bool) {
	body, e := frame.Exact(packet)
	if e != api.OK || len(body) == 0 {
		return said{}, false
	}
	s := said{answer: body[0] == answerByte}
	left := body[1:]
	s.lane, left = loose(left)
	s.number, left = loose(left)
	if s.answer {
		s.word, left = loose(left)
	}
	s.message = string(left)
	if !s.fits() || !bytes.Equal(s.body(), body) {
		return said{}, false
	}
	return s, true
}

// refusal gives the error of a packet that isn't of the kind or the lane that is wanted.
func refusal(packet []byte, answer bool, lane int) (said, api.Errno) {
	s, ok := understood(packet)
	if !ok || s.answer != answer {
		return said{}, api.ErrLinkPacket
	} else if s.lane != lane {
		return said{}, api.ErrLinkLane
	}
	return s, api.OK
}

// A sending is a second reading of the sending end: it keeps all that was put and all answers that were taken, and finds everything else in them.
type sending struct {
	lane, window int
	before       int // so many messages were put and answered ahead of its beginning
	put          []string
	answers      []said
}

func (m *sending) last() int { return m.before + len(m.put) }

func (m *sending) answered() int {
	n := m.before
	for _, a := range m.answers {
		n = max(n, a.number-1)
	}
	return n
}

func (m *sending) Put(body []byte) api.Errno {
	if len(body) > mostMessage {
		return api.ErrLinkLong
	} else if m.last() == mostNumber {
		return api.ErrLinkEnd
	}
	m.put = append(m.put, string(body))
	return api.OK
}

func (m *sending) Tick() [][]byte {
	var all [][]byte
	for number := m.answered() + 1; number <= m.last() && len(all) < m.window; number++ {
		all = append(all, data(m.lane, number, m.put[number-m.before-1]))
	}
	return all
}

func (m *sending) Ack(packet []byte) api.Errno {
	s, e := refusal(packet, true, m.lane)
	if e == api.OK && (s.number == 0 || s.number > m.last()+1) {
		e = api.ErrLinkNumber
	}
	if e == api.OK {
		m.answers = append(m.answers, s)
	}
	return e
}

func (m *sending) Open() int { return m.last() - m.answered() }

func (m *sending) Word() int {
	word := 0
	for _, a := range m.answers {
		word = max(word, a.word)
	}
	return word
}

// A receiving is a second reading of the receiving end: it keeps the messages within the window as they were taken, and all words that were told.
type receiving struct {
	lane, window int
	before       int // so many messages were given ahead of its beginning
	taken        []said
	words        []int
	given        int
}

// find gives the place of a message among those that were taken; -1: it isn't there.
func (m *receiving) find(number int) int {
	return slices.IndexFunc(m.taken, func(s said) bool { return s.number == number })
}

func (m *receiving) wanted() int {
	w := m.before + 1
	for m.find(w) >= 0 {
		w++
	}
	return w
}

func (m *receiving) Take(packet []byte) ([]byte, api.Errno) {
	s, e := refusal(packet, false, m.lane)
	if e != api.OK {
		return nil, e
	}
	if w := m.wanted(); s.number >= w && s.number <= w+m.window-1 && m.find(s.number) < 0 {
		m.taken = append(m.taken, s)
	}
	return m.Answer(), api.OK
}

func (m *receiving) Next() ([]byte, bool) {
	number := m.before + m.given + 1
	if number >= m.wanted() {
		return nil, false
	}
	m.given++
	return []byte(m.taken[m.find(number)].message), true
}

func (m *receiving) Tell(word int) { m.words = append(m.words, word) }

func (m *receiving) word() int {
	word := 0
	for _, w := range m.words {
		word = max(word, w)
	}
	return min(word, mostNumber)
}

func (m *receiving) Answer() []byte { return answer(m.lane, m.wanted(), m.word()) }
