package post_test

import (
	"slices"

	"eddy/api"
)

// A model is a second, plain reading of the chapter: it keeps the calls that changed something, and finds everything else in them.
type model struct {
	kind
	past []call
}

func (m *model) keep(c call) { m.past = append(m.past, c) }

// calls gives the calls of a snapshot: those between its trigger and the next one.
func (m *model) calls(id int) []call {
	at := m.first - 1
	var all []call
	for _, c := range m.past {
		if c.What == "trigger" {
			at++
		}
		if at == id {
			all = append(all, c)
		}
	}
	return all
}

// count tells how many of the calls have a name.
func count(calls []call, what string) int {
	n := 0
	for _, c := range calls {
		if c.What == what {
			n++
		}
	}
	return n
}

func (m *model) next() int { return m.first + count(m.past, "trigger") }

func (m *model) Status(id int) int {
	if id < m.first || id >= m.next() {
		return 0
	}
	calls := m.calls(id)
	if count(calls, "abort") > 0 {
		return 4
	}
	if count(calls, "pick") < m.tasks {
		return 1
	}
	for _, c := range m.past {
		if c.What == "settle" && c.Id == id && c.Ok {
			return 3
		} else if c.What == "settle" && c.Id == id {
			return 4
		}
	}
	return 2
}

// under gives the number of the snapshot under way; 0: none is. While one is, no other one begins: so it is the last.
func (m *model) under() int {
	if id := m.next() - 1; m.Status(id) == 1 {
		return id
	}
	return 0
}

// handed gives the parts for the snapshot under way that were picked, and those that wait, each as it was handed in.
func (m *model) handed() (gathered, waiting []call) {
	if m.under() == 0 {
		return nil, nil
	}
	calls := m.calls(m.under())
	var all []call
	for _, c := range calls {
		if c.What == "hand" {
			all = append(all, c)
		}
	}
	picks := count(calls, "pick")
	return all[:picks], all[picks:]
}

// among finds a task's part; -1: it isn't there.
func among(hands []call, task int) int {
	for k, c := range hands {
		if c.Task == task {
			return k
		}
	}
	return -1
}

func (m *model) Trigger() (int, api.Errno) {
	if m.under() != 0 {
		return 0, api.ErrPostUnder
	} else if m.next() == 10000 {
		return 0, api.ErrPostIds
	}
	m.keep(call{What: "trigger"})
	return m.next() - 1, api.OK
}

func (m *model) Hand(id, task int, part api.Part) api.Errno {
	gathered, waiting := m.handed()
	if task < 0 || task > m.tasks-1 {
		return api.ErrPostTask
	} else if m.under() == 0 || m.under() != id {
		return api.ErrPostOther
	} else if among(gathered, task) >= 0 || among(waiting, task) >= 0 {
		return api.ErrPostTwice
	}
	m.keep(call{What: "hand", Id: id, Task: task, Part: part})
	return api.OK
}

func (m *model) Pick() (int, api.Shot) {
	gathered, waiting := m.handed()
	if len(waiting) == 0 {
		return 0, api.Shot{}
	}
	all := append(slices.Clip(gathered), waiting[0])
	id := m.under()
	m.keep(call{What: "pick"})
	if len(all) < m.tasks {
		return 1, api.Shot{}
	}
	s := api.Shot{Id: id, Sum: m.sum}
	for task := range m.tasks {
		s.Parts = append(s.Parts, all[among(all, task)].Part)
	}
	return 2, s
}

func (m *model) Abort() (int, api.Errno) {
	id := m.under()
	if id == 0 {
		return 0, api.ErrPostNone
	}
	m.keep(call{What: "abort"})
	return id, api.OK
}

func (m *model) Settle(id int, ok bool) api.Errno {
	if m.Status(id) != 2 {
		return api.ErrPostReady
	}
	m.keep(call{What: "settle", Id: id, Ok: ok})
	return api.OK
}

func (m *model) Open() (int, []int) {
	id := m.under()
	gathered, _ := m.handed()
	var tasks []int
	for task := 0; id != 0 && task < m.tasks; task++ {
		if among(gathered, task) < 0 {
			tasks = append(tasks, task)
		}
	}
	return id, tasks
}
