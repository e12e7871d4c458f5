package fleet_test

import (
	"slices"

	"eddy/api"
	"eddy/cut"
	"eddy/post"
	"eddy/stage"
)

// A model is a second, plain reading of the chapter, of that of layer 16 and of those of the links and of the network: lists for lanes, all messages that were ever put in one list a link, and every port found by going through the edges. It never writes into a list that it has told, so its lists may share memory.
type model struct {
	kind
	stages   []*stage.Stage
	books    []*cut.Book
	states   []api.State
	lanes    [][]api.Item // by edge, of a remote one at the receiving end
	roads    []*road      // by edge; nil: a local one
	controls [][]api.Item // by task
	outs     [][]api.Record
	begun    []int // by task, how many records a sink had put out at first
	post     *post.Post
	trail    []api.Trail
	flights  []flight
}

// A road is the link of a remote edge.
type road struct {
	lane, from, to int
	messages       [][]byte // all that were put, the first one is number 1
	records        int      // of them
	atFirst        int      // records in the lane at first
	answered, word int      // what the sending end knows
	wanted         int      // at the receiving end: the next message
	kept           map[int][]byte
	worked         int
}

// A flight is a packet in flight, and how many of its bits were turned.
type flight struct {
	api.Flight
	flips int
}

func (k kind) model() *model {
	tasks := len(k.plan.Tasks)
	m := &model{kind: k, states: slices.Clone(k.start.States), controls: make([][]api.Item, tasks), outs: make([][]api.Record, tasks), begun: make([]int, tasks)}
	for edge, l := range k.start.Lanes {
		var items []api.Item
		for _, r := range l {
			items = append(items, api.Item{Rec: r})
		}
		m.lanes = append(m.lanes, items)
		e, r := k.plan.Edges[edge], (*road)(nil)
		if k.remote(edge) {
			r = &road{lane: edge, from: k.place[e.From], to: k.place[e.To], atFirst: len(l), wanted: 1, kept: map[int][]byte{}}
		}
		m.roads = append(m.roads, r)
	}
	sinks := 0
	for task, t := range k.plan.Tasks {
		g, e := stage.New(t, len(m.edgesInto(task)), len(m.edgesFrom(task)))
		back := -1
		if t.Kind == api.Head {
			back = 1
		}
		b, e2 := cut.New(k.mode, m.ports(task), back)
		if e != api.OK || e2 != api.OK {
			panic("a task of a valid plan can't be made")
		}
		m.stages, m.books = append(m.stages, g), append(m.books, b)
		if t.Kind == api.Sink {
			m.outs[task], m.begun[task] = slices.Clip(k.start.Outs[sinks]), len(k.start.Outs[sinks])
			sinks++
		}
	}
	m.post, _ = post.New(tasks, k.next, k.sum)
	return m
}

func (m *model) is(task, kind int) bool { return m.plan.Tasks[task].Kind == kind }

// edgesInto gives the edges that lead to a task, edgesFrom those that begin at it, in no order of their ports.
func (m *model) edgesInto(task int) []int {
	return m.edgesOf(func(e api.Edge) bool { return e.To == task })
}

func (m *model) edgesFrom(task int) []int {
	return m.edgesOf(func(e api.Edge) bool { return e.From == task })
}

func (m *model) edgesOf(are func(e api.Edge) bool) []int {
	var all []int
	for k, e := range m.plan.Edges {
		if are(e) {
			all = append(all, k)
		}
	}
	return all
}

// ports counts the ports at which a task can be picked.
func (m *model) ports(task int) int { return max(1, len(m.edgesInto(task))) }

// edgeAt gives the edge at a port; -1: it is a source's.
func (m *model) edgeAt(task, port int) int {
	for _, k := range m.edgesInto(task) {
		if m.plan.Edges[k].In == port {
			return k
		}
	}
	return -1
}

// at gives the list of a port: a lane, or a control lane.
func (m *model) at(task, port int) *[]api.Item {
	if edge := m.edgeAt(task, port); edge >= 0 {
		return &m.lanes[edge]
	}
	return &m.controls[task]
}

// back tells whether an edge is a back edge.
func (m *model) back(edge int) bool {
	e := m.plan.Edges[edge]
	return m.is(e.To, api.Head) && e.In == 1
}

// full is P24.4.
func (m *model) full(edge int) bool {
	held := len(recordsIn(m.lanes[edge]))
	if r := m.roads[edge]; r != nil {
		held = r.records + r.atFirst - r.word
	}
	return !m.back(edge) && held >= m.plan.Cap
}

// lay lays an item into an edge.
func (m *model) lay(edge int, x api.Item) {
	r := m.roads[edge]
	if r == nil {
		m.lanes[edge] = append(slices.Clip(m.lanes[edge]), x)
		return
	}
	r.messages = append(r.messages, messageOf(x))
	if x.Mark == 0 {
		r.records++
	}
}

func recordsIn(items []api.Item) []api.Record {
	var all []api.Record
	for _, x := range items {
		if x.Mark == 0 {
			all = append(all, x.Rec)
		}
	}
	return all
}

func isMarker(x api.Item) bool { return x.Mark > 0 }

func (m *model) Pick(task, port int) int {
	if task < 0 || task > len(m.plan.Tasks)-1 || port < 0 || port > m.ports(task)-1 {
		return api.DidNothing
	}
	items, held := m.at(task, port), m.books[task].Held(port)
	marker := slices.IndexFunc(*items, isMarker)
	switch {
	case m.mode == api.Overtaking && marker >= 0, !held && marker == 0:
		ahead, id := recordsIn((*items)[:marker]), (*items)[marker].Mark
		*items = slices.Concat((*items)[:marker], (*items)[marker+1:])
		m.take(task, port, id, ahead)
		return api.DidMark
	case held:
		return api.DidHeld
	case m.is(task, api.Source):
		tape := m.tapes[m.plan.Tasks[task].Num]
		if m.states[task].Num == len(tape) {
			return api.DidEmpty
		}
		return m.work(task, port, tape[m.states[task].Num])
	case len(*items) == 0:
		return api.DidEmpty
	}
	return m.work(task, port, (*items)[0].Rec)
}

func (m *model) work(task, port int, r api.Record) int {
	s, sends, e := m.stages[task].Step(m.states[task], port, r)
	if e != api.OK {
		return api.DidHalt
	}
	outs := make([]int, len(sends))
	for k, x := range sends {
		for _, edge := range m.edgesFrom(task) {
			if m.plan.Edges[edge].Out == x.Out {
				outs[k] = edge
			}
		}
		if m.full(outs[k]) {
			return api.DidBlock
		}
	}
	if edge := m.edgeAt(task, port); edge >= 0 {
		m.lanes[edge] = m.lanes[edge][1:]
		if r := m.roads[edge]; r != nil {
			r.worked++
		}
	}
	m.states[task] = s
	for k, x := range sends {
		m.lay(outs[k], api.Item{Rec: x.Rec})
	}
	if m.is(task, api.Sink) {
		m.outs[task] = append(slices.Clip(m.outs[task]), r)
	}
	m.books[task].Took(port, r)
	m.trail = append(m.trail, api.Trail{Kind: api.TrailStep, Task: task, Port: port})
	return api.DidStep
}

// take is P16.4.
func (m *model) take(task, port, id int, ahead []api.Record) {
	m.trail = append(m.trail, api.Trail{Kind: api.TrailMark, Task: task, Port: port, Id: id})
	copied, _ := m.books[task].Mark(port, id, ahead, m.states[task], m.outs[task][m.begun[task]:])
	if copied {
		m.trail = append(m.trail, api.Trail{Kind: api.TrailCopy, Task: task, Id: id})
		for _, edge := range m.edgesFrom(task) {
			m.lay(edge, api.Item{Mark: id})
		}
	}
	if of, part, ok := m.books[task].Part(); ok {
		if m.is(task, api.Source) {
			part.Logs = nil
		}
		m.post.Hand(of, task, part)
		m.trail = append(m.trail, api.Trail{Kind: api.TrailPart, Task: task, Id: of})
	}
}

func (m *model) Trigger() (int, api.Errno) {
	id, e := m.post.Trigger()
	if e != api.OK {
		return 0, e
	}
	for task := range m.plan.Tasks {
		if m.is(task, api.Source) {
			m.controls[task] = append(slices.Clip(m.controls[task]), api.Item{Mark: id})
		}
	}
	m.trail = append(m.trail, api.Trail{Kind: api.TrailTrigger, Id: id})
	return id, e
}

func (m *model) Post() (api.Shot, int) {
	did, shot := m.post.Pick()
	if did == 2 {
		m.trail = append(m.trail, api.Trail{Kind: api.TrailReady, Id: shot.Id})
	}
	return shot, [...]int{api.DidEmpty, api.DidAck, api.DidReady}[did]
}

func (m *model) Abort() (int, api.Errno) {
	id, e := m.post.Abort()
	if e == api.OK {
		m.trail = append(m.trail, api.Trail{Kind: api.TrailAbort, Id: id})
	}
	return id, e
}

// under gives the snapshot under way.
func (m *model) under() int {
	id, _ := m.post.Open()
	return id
}

// send lets a packet fly, if there is room.
func (m *model) send(from, to int, l letter) {
	if len(m.flights) < 256 {
		m.flights = append(slices.Clip(m.flights), flight{api.Flight{From: from, To: to, Data: l.packet()}, 0})
	}
}

// answer gives the answer of the receiving end.
func (r *road) answer() letter {
	return letter{answer: true, lane: r.lane, number: r.wanted, word: r.worked}
}

func (m *model) Tick(edge int) int {
	if edge < 0 || edge >= len(m.roads) || m.roads[edge] == nil {
		return 0
	}
	r := m.roads[edge]
	open := min(len(r.messages)-r.answered, 16)
	for n := r.answered + 1; n <= r.answered+open; n++ {
		m.send(r.from, r.to, letter{lane: edge, number: n, message: r.messages[n-1]})
	}
	m.send(r.to, r.from, r.answer())
	return open + 1
}

func (m *model) has(i int) bool { return i >= 0 && i < len(m.flights) }

func (m *model) Drop(i int) bool {
	if !m.has(i) {
		return false
	}
	m.flights = slices.Concat(m.flights[:i], m.flights[i+1:])
	return true
}

func (m *model) Copy(i int) bool {
	if !m.has(i) || len(m.flights) == 256 {
		return false
	}
	m.flights = append(slices.Clip(m.flights), m.flights[i])
	return true
}

func (m *model) Flip(i, bit int) bool {
	if !m.has(i) || bit < 0 || bit >= 8*len(m.flights[i].Data) {
		return false
	}
	f := m.flights[i]
	f.Data = slices.Clone(f.Data)
	f.Data[bit/8] ^= 1 << (bit % 8)
	f.flips++
	m.flights = slices.Clone(m.flights)
	m.flights[i] = f
	return true
}

func (m *model) Deliver(i int) bool {
	if !m.has(i) {
		return false
	}
	f := m.flights[i]
	m.Drop(i)
	l, ok := letterOf(f.Data)
	if !ok || l.lane >= len(m.roads) || m.roads[l.lane] == nil {
		return true
	}
	r := m.roads[l.lane]
	switch {
	case l.answer && f.To == r.from && l.number >= 1 && l.number <= len(r.messages)+1:
		r.answered, r.word = max(r.answered, l.number-1), max(r.word, l.word)
	case !l.answer && f.To == r.to:
		m.arrives(r, l)
	}
	return true
}

// arrives lets the receiving end take a data packet.
func (m *model) arrives(r *road, l letter) {
	if _, kept := r.kept[l.number]; !kept && l.number >= r.wanted && l.number < r.wanted+16 {
		r.kept[l.number] = l.message
	}
	for message, kept := r.kept[r.wanted]; kept; message, kept = r.kept[r.wanted] {
		if x, ok := itemOf(message); ok {
			m.lanes[r.lane] = append(slices.Clip(m.lanes[r.lane]), x)
		}
		delete(r.kept, r.wanted)
		r.wanted++
	}
	m.send(r.to, r.from, r.answer())
}

func (m *model) Flights() []api.Flight {
	var all []api.Flight
	for _, f := range m.flights {
		f.Data = slices.Clone(f.Data)
		all = append(all, f.Flight)
	}
	return all
}

// onTheWay gives the records of the messages that were put and haven't come in.
func (r *road) onTheWay() []api.Record {
	var all []api.Record
	for k, message := range r.messages {
		if x, ok := itemOf(message); ok && x.Mark == 0 && k+1 >= r.wanted {
			all = append(all, x.Rec)
		}
	}
	return all
}

func (m *model) Config() api.Config {
	c := api.Config{States: slices.Clone(m.states)}
	for edge, items := range m.lanes {
		l := recordsIn(items)
		if r := m.roads[edge]; r != nil {
			l = append(l, r.onTheWay()...)
		}
		c.Lanes = append(c.Lanes, l)
	}
	for task := range m.plan.Tasks {
		if m.is(task, api.Sink) {
			c.Outs = append(c.Outs, m.outs[task])
		}
	}
	return c
}

func (m *model) Here() []int {
	var all []int
	for _, items := range m.lanes {
		all = append(all, len(items))
	}
	return all
}

func (m *model) Trail() []api.Trail { return slices.Clone(m.trail) }
