package cut_test

import (
	"eddy/api"
)

// A model is a second, plain reading of the chapter: it keeps all calls that took or marked something, and each part that was handed out, and finds everything else in them.
type model struct {
	kind
	past []call
}

func (m *model) Now() int {
	now := 0
	for _, c := range m.past {
		now = max(now, c.Id)
	}
	return now
}

// closedAt finds the call that closed a port for now; -1: it is open.
func (m *model) closedAt(port int) int {
	now := m.Now()
	for k, c := range m.past {
		if c.What == "mark" && c.Id == now && c.Port == port {
			return k
		}
	}
	return -1
}

// copyAt finds the call that made the copy of now; -1: it isn't made.
func (m *model) copyAt() int {
	first, last, open := len(m.past), -1, false
	for port := range m.ports {
		at := m.closedAt(port)
		if at >= 0 {
			first = min(first, at)
		}
		if port != m.back {
			last, open = max(last, at), open || at < 0
		}
	}
	switch {
	case m.mode == api.Aligned && !open:
		return last
	case m.mode != api.Aligned && first < len(m.past):
		return first
	}
	return -1
}

func (m *model) has(port int) bool { return 0 <= port && port <= m.ports-1 }

func (m *model) Held(port int) bool {
	return m.has(port) && m.mode == api.Aligned && m.Now() > 0 && m.copyAt() < 0 && m.closedAt(port) >= 0
}

func (m *model) Took(port int, r api.Record) api.Errno {
	if !m.has(port) {
		return api.ErrCutPort
	} else if m.Held(port) {
		return api.ErrCutHeld
	}
	m.past = append(m.past, call{What: "took", Port: port, Rec: r})
	return api.OK
}

func (m *model) Mark(port, id int, ahead []api.Record, s api.State, pend []api.Record) (bool, api.Errno) {
	if !m.has(port) {
		return false, api.ErrCutPort
	} else if id < 1 || id > 9999 {
		return false, api.ErrCutMark
	} else if m.Held(port) {
		return false, api.ErrCutHeld
	}
	m.past = append(m.past, call{What: "mark", Port: port, Id: id, Ahead: ahead, State: s, Pend: pend})
	return m.copyAt() == len(m.past)-1, api.OK
}

// done tells whether the part of now is done, and whether it was handed out.
func (m *model) done() (done, handed bool) {
	done = m.copyAt() >= 0
	for port := range m.ports {
		done = done && m.closedAt(port) >= 0
	}
	for _, c := range m.past {
		handed = handed || c.What == "part" && c.Id == m.Now()
	}
	return done, handed
}

func (m *model) Part() (int, api.Part, bool) {
	if done, handed := m.done(); !done || handed {
		return 0, api.Part{}, false
	}
	now, copied := m.Now(), m.copyAt()
	p := api.Part{State: m.past[copied].State, Pend: m.past[copied].Pend}
	for port := range m.ports {
		p.Logs = append(p.Logs, m.log(port))
	}
	m.past = append(m.past, call{What: "part", Id: now})
	return now, p, true
}

// log gives the records that were taken at a port between the copy and the call that closed it, and in mode Overtaking that call's ahead.
func (m *model) log(port int) []api.Record {
	var all []api.Record
	closed := m.closedAt(port)
	for k := m.copyAt(); k < closed; k++ {
		if m.past[k].What == "took" && m.past[k].Port == port {
			all = append(all, m.past[k].Rec)
		}
	}
	if m.mode == api.Overtaking {
		all = append(all, m.past[closed].Ahead...)
	}
	return all
}
