package runner_test

import (
	"slices"

	"eddy/api"
	"eddy/stage"
)

// A model is a second, plain reading of the chapter and of the document's section on the three modes: a list a lane, and every port found by going through the edges. It never writes into a list that it has told, so its lists may share memory.
type model struct {
	kind
	stages    []*stage.Stage
	states    []api.State
	lanes     [][]api.Item
	controls  [][]api.Item // by task
	outs      [][]api.Record
	committed []int // by task
	books     []journal
	begun     int            // how many snapshots were triggered
	ends      map[int]string // by snapshot: ready, complete or aborted; of one under way nothing
	inbox     []letter
	gathered  []letter
	trail     []api.Trail
}

// A journal is what a task knows of the greatest marker it has seen.
type journal struct {
	marker int
	closed [4]bool
	copied bool
	part   api.Part
}

// A letter is a task's part.
type letter struct {
	task int
	part api.Part
}

func (k kind) model() *model {
	tasks := len(k.plan.Tasks)
	m := &model{kind: k, states: slices.Clone(k.start.States), controls: make([][]api.Item, tasks), outs: make([][]api.Record, tasks), committed: make([]int, tasks), books: make([]journal, tasks), ends: map[int]string{}}
	for _, l := range k.start.Lanes {
		var items []api.Item
		for _, r := range l {
			items = append(items, api.Item{Rec: r})
		}
		m.lanes = append(m.lanes, items)
	}
	sinks := 0
	for task, t := range k.plan.Tasks {
		outs := 0
		for _, e := range k.plan.Edges {
			if e.From == task {
				outs++
			}
		}
		g, e := stage.New(t, len(m.edgesInto(task)), outs)
		if e != api.OK {
			panic("a task of a valid plan has no operator")
		}
		m.stages = append(m.stages, g)
		if t.Kind == api.Sink {
			m.outs[task], m.committed[task] = slices.Clip(k.start.Outs[sinks]), len(k.start.Outs[sinks])
			sinks++
		}
	}
	return m
}

func (m *model) is(task, kind int) bool { return m.plan.Tasks[task].Kind == kind }

// edgesInto gives the edges that lead to a task, in no order of their ports.
func (m *model) edgesInto(task int) []int {
	var all []int
	for k, e := range m.plan.Edges {
		if e.To == task {
			all = append(all, k)
		}
	}
	return all
}

// ports counts the ports at which a task can be picked.
func (m *model) ports(task int) int { return max(1, len(m.edgesInto(task))) }

// at gives the list of a port: a lane, or a control lane.
func (m *model) at(task, port int) *[]api.Item {
	if m.is(task, api.Source) {
		return &m.controls[task]
	}
	for _, k := range m.edgesInto(task) {
		if m.plan.Edges[k].In == port {
			return &m.lanes[k]
		}
	}
	panic("no such port")
}

// lay lays an item at the end of the lane of an out port; -1: of all out ports.
func (m *model) lay(task, out int, x api.Item) {
	for k, e := range m.plan.Edges {
		if e.From == task && (e.Out == out || out == -1) {
			m.lanes[k] = append(slices.Clip(m.lanes[k]), x)
		}
	}
}

// back tells whether an edge is a back edge.
func (m *model) back(edge int) bool {
	e := m.plan.Edges[edge]
	return m.is(e.To, api.Head) && e.In == 1
}

func (m *model) full(task, out int) bool {
	for k, e := range m.plan.Edges {
		if e.From == task && e.Out == out {
			return !m.back(k) && len(recordsIn(m.lanes[k])) >= m.plan.Cap
		}
	}
	panic("no such port")
}

func recordsIn(items []api.Item) []api.Record {
	var all []api.Record
	for _, x := range items {
		if x.Mark == 0 {
			all = append(all, x.Rec)
		}
	}
	return all
}

// held: mode Aligned, a closed port, and no copy.
func (m *model) held(task, port int) bool {
	b := m.books[task]
	return m.mode == 1 && b.closed[port] && !b.copied
}

func (m *model) Pick(task, port int) int {
	if task < 0 || task > len(m.plan.Tasks)-1 || port < 0 || port > m.ports(task)-1 {
		return 0
	}
	items := m.at(task, port)
	marker := slices.IndexFunc(*items, func(x api.Item) bool { return x.Mark > 0 })
	switch {
	case m.mode == 3 && marker >= 0, !m.held(task, port) && marker == 0:
		ahead, id := recordsIn((*items)[:marker]), (*items)[marker].Mark
		*items = slices.Concat((*items)[:marker], (*items)[marker+1:])
		m.take(task, port, id, ahead)
		return 2
	case m.held(task, port):
		return 5
	case m.is(task, api.Source):
		tape := m.tapes[m.plan.Tasks[task].Num]
		if m.states[task].Num == len(tape) {
			return 4
		}
		return m.work(task, port, tape[m.states[task].Num])
	case len(*items) == 0:
		return 4
	}
	return m.work(task, port, (*items)[0].Rec)
}

func (m *model) work(task, port int, r api.Record) int {
	s, sends, e := m.stages[task].Step(m.states[task], port, r)
	if e != api.OK {
		return 13
	}
	for _, x := range sends {
		if m.full(task, x.Out) {
			return 3
		}
	}
	m.states[task] = s
	for _, x := range sends {
		m.lay(task, x.Out, api.Item{Rec: x.Rec})
	}
	if items := m.at(task, port); !m.is(task, api.Source) {
		*items = (*items)[1:]
	}
	if m.is(task, api.Sink) {
		m.outs[task] = append(slices.Clip(m.outs[task]), r)
	}
	if b := &m.books[task]; b.copied && !b.closed[port] {
		b.part.Logs[port] = append(slices.Clip(b.part.Logs[port]), r)
	}
	m.trail = append(m.trail, api.Trail{Kind: 1, Task: task, Port: port})
	return 1
}

// take: a marker is taken, by the document's section on the three modes.
func (m *model) take(task, port, id int, ahead []api.Record) {
	m.trail = append(m.trail, api.Trail{Kind: 2, Task: task, Port: port, Id: id})
	b := &m.books[task]
	if id < b.marker || id == b.marker && b.closed[port] {
		return
	}
	if id > b.marker {
		*b = journal{marker: id, part: api.Part{Logs: make([][]api.Record, m.ports(task))}}
	}
	b.closed[port] = true
	if m.mode == 3 {
		b.part.Logs[port] = append(slices.Clip(b.part.Logs[port]), ahead...)
	}
	waits := false
	for p := range m.ports(task) {
		waits = waits || m.mode == 1 && !b.closed[p] && !(m.is(task, api.Head) && p == 1)
	}
	if !b.copied && !waits {
		b.copied, b.part.State, b.part.Pend = true, m.states[task], m.outs[task][m.committed[task]:]
		m.trail = append(m.trail, api.Trail{Kind: 3, Task: task, Id: id})
		m.lay(task, -1, api.Item{Mark: id})
	}
	if !b.copied || slices.Contains(b.closed[:m.ports(task)], false) {
		return
	}
	if m.is(task, api.Source) {
		b.part.Logs = nil
	}
	m.trail = append(m.trail, api.Trail{Kind: 4, Task: task, Id: id})
	if m.under() == id {
		m.inbox = append(m.inbox, letter{task, b.part})
	}
}

// last gives the number of the snapshot that was begun last, under that of the one under way; 0: none is.
func (m *model) last() int { return m.next + m.begun - 1 }

func (m *model) under() int {
	if m.begun == 0 || m.ends[m.last()] != "" {
		return 0
	}
	return m.last()
}

func (m *model) Trigger() (int, api.Errno) {
	if m.under() != 0 {
		return 0, api.ErrPostUnder
	} else if m.last() == 9999 {
		return 0, api.ErrPostIds
	}
	m.begun++
	for task := range m.plan.Tasks {
		if m.is(task, api.Source) {
			m.controls[task] = append(slices.Clip(m.controls[task]), api.Item{Mark: m.last()})
		}
	}
	m.trail = append(m.trail, api.Trail{Kind: 5, Id: m.last()})
	return m.last(), api.OK
}

func (m *model) Post() (api.Shot, int) {
	if len(m.inbox) == 0 {
		return api.Shot{}, 4
	}
	m.inbox, m.gathered = m.inbox[1:], append(slices.Clip(m.gathered), m.inbox[0])
	if len(m.gathered) < len(m.plan.Tasks) {
		return api.Shot{}, 7
	}
	s := api.Shot{Id: m.last(), Sum: m.sum, Parts: make([]api.Part, len(m.plan.Tasks))}
	for _, l := range m.gathered {
		s.Parts[l.task] = l.part
	}
	m.end("ready")
	m.trail = append(m.trail, api.Trail{Kind: 6, Id: s.Id})
	return s, 8
}

func (m *model) end(how string) { m.ends[m.last()], m.inbox, m.gathered = how, nil, nil }

func (m *model) Abort() (int, api.Errno) {
	id := m.under()
	if id == 0 {
		return 0, api.ErrPostNone
	}
	m.end("aborted")
	m.trail = append(m.trail, api.Trail{Kind: 8, Id: id})
	return id, api.OK
}

func (m *model) Settle(id int, ok bool) api.Errno {
	if m.ends[id] != "ready" {
		return api.ErrPostReady
	}
	m.ends[id] = map[bool]string{true: "complete", false: "aborted"}[ok]
	return api.OK
}

func (m *model) Commit(counts []int) {
	for task := range m.plan.Tasks {
		if !m.is(task, api.Sink) || len(counts) == 0 {
			continue
		}
		switch {
		case counts[0] < 0:
			m.committed[task] = 0
		case counts[0] > len(m.outs[task]):
			m.committed[task] = len(m.outs[task])
		default:
			m.committed[task] = counts[0]
		}
		counts = counts[1:]
	}
}

func (m *model) Under() (int, []int) {
	id := m.under()
	var tasks []int
	for task := range m.plan.Tasks {
		if id != 0 && !slices.ContainsFunc(m.gathered, func(l letter) bool { return l.task == task }) {
			tasks = append(tasks, task)
		}
	}
	return id, tasks
}

func (m *model) Config() api.Config {
	c := api.Config{States: slices.Clone(m.states)}
	for _, items := range m.lanes {
		c.Lanes = append(c.Lanes, recordsIn(items))
	}
	for task := range m.plan.Tasks {
		if m.is(task, api.Sink) {
			c.Outs = append(c.Outs, m.outs[task])
		}
	}
	return c
}

func (m *model) Trail() []api.Trail { return slices.Clone(m.trail) }
