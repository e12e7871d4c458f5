package lane_test

import (
	"fmt"
	"slices"

	"eddy/api"
)

// A model is a plain reading of the chapter: a list, gone through anew for every answer.
type model struct {
	room  int
	shut  bool
	items []api.Item
}

func (m *model) records() int {
	n := 0
	for _, x := range m.items {
		if x.Mark == 0 {
			n++
		}
	}
	return n
}

func (m *model) Full() bool { return !m.shut && m.room != 0 && m.records() >= m.room }

func (m *model) Put(in ...api.Item) (int, api.Errno) {
	for k, x := range in {
		if m.shut {
			return k, api.ErrLaneShut
		}
		if x.Mark < 0 {
			return k, api.ErrLaneItem
		}
		if x.Mark == 0 && m.Full() {
			return k, api.ErrLaneFull
		}
		if x.Mark > 0 {
			x.Rec = api.Record{}
		}
		m.items = append(m.items, x)
	}
	return len(in), api.OK
}

func (m *model) Peek() (api.Item, bool) {
	if len(m.items) == 0 {
		return api.Item{}, false
	}
	return m.items[0], true
}

func (m *model) Take() (api.Item, bool) {
	x, ok := m.Peek()
	if ok {
		m.items = m.items[1:]
	}
	return x, ok
}

func (m *model) Pull() (int, []api.Record) {
	at := slices.IndexFunc(m.items, func(x api.Item) bool { return x.Mark > 0 })
	if at < 0 {
		return 0, nil
	}
	var ahead []api.Record
	for _, x := range m.items[:at] {
		ahead = append(ahead, x.Rec)
	}
	number := m.items[at].Mark
	m.items = slices.Concat(m.items[:at], m.items[at+1:])
	return number, ahead
}

func (m *model) Refill(in []api.Record) api.Errno {
	if m.shut {
		return api.ErrLaneShut
	}
	var front []api.Item
	for _, r := range in {
		front = append(front, api.Item{Rec: r})
	}
	m.items = slices.Concat(front, m.items)
	return api.OK
}

func (m *model) List() []api.Item { return slices.Clone(m.items) }

func (m *model) Close() []api.Item {
	all := m.items
	m.items, m.shut = nil, true
	return all
}

// A face is what a lane and a model have in common: all calls of the chapter but New.
type face interface {
	Put(items ...api.Item) (int, api.Errno)
	Take() (api.Item, bool)
	Peek() (api.Item, bool)
	Pull() (int, []api.Record)
	Refill(records []api.Record) api.Errno
	List() []api.Item
	Full() bool
	Close() []api.Item
}

// The kinds of calls; Close is the last one.
const (
	callPut = iota
	callTake
	callPeek
	callPull
	callRefill
	callList
	callFull
	callClose
)

// A call is a call with its arguments.
type call struct {
	kind    int
	items   []api.Item
	records []api.Record
}

// An answer is what a call of any kind answers; what its kind doesn't answer is zero.
type answer struct {
	n       int
	err     api.Errno
	ok      bool
	item    api.Item
	items   []api.Item
	records []api.Record
}

func (c call) of(l face) answer {
	var a answer
	switch c.kind {
	case callPut:
		a.n, a.err = l.Put(c.items...)
	case callTake:
		a.item, a.ok = l.Take()
	case callPeek:
		a.item, a.ok = l.Peek()
	case callPull:
		a.n, a.records = l.Pull()
	case callRefill:
		a.err = l.Refill(c.records)
	case callList:
		a.items = l.List()
	case callFull:
		a.ok = l.Full()
	case callClose:
		a.items = l.Close()
	}
	return a
}

func (c call) String() string {
	name := []string{"Put", "Take", "Peek", "Pull", "Refill", "List", "Full", "Close"}[c.kind]
	return fmt.Sprintf("%s(%s%s)", name, words(c.items), wordsOf(c.records))
}

// like tells whether two answers are the same, nil and empty lists being the same. It is asked very often, so it goes field by field.
func like(a, b answer) bool {
	return a.n == b.n && a.err == b.err && a.ok == b.ok && likeItem(a.item, b.item) &&
		slices.EqualFunc(a.items, b.items, likeItem) && slices.EqualFunc(a.records, b.records, likeRecord)
}

func likeItem(a, b api.Item) bool { return a.Mark == b.Mark && likeRecord(a.Rec, b.Rec) }

func likeRecord(a, b api.Record) bool {
	return a.Key == b.Key && likeValue(a.Val, b.Val) && slices.Equal(a.Loops, b.Loops)
}

func likeValue(a, b api.Value) bool {
	return a.Kind == b.Kind && a.Int == b.Int && a.Text == b.Text && slices.EqualFunc(a.Items, b.Items, likeValue)
}
