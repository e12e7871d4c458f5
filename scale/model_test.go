package scale_test

import (
	"fmt"
	"sort"
	"strings"

	"eddy/api"
	"eddy/engine"
	"eddy/equal"
	"eddy/flow"
	"eddy/frame"
	"eddy/heal"
	"eddy/outlet"
	"eddy/plan"
	"eddy/shape"
	"eddy/stage"
	"eddy/wire"
)

// A second, plain reading of the chapter: a spread plan is read from the text of its edges, a store from what an engine finds.

func modelPlace(key string, bounds ...string) int {
	sorted := append([]string(nil), bounds...)
	sort.Strings(sorted)
	n := 0
	for n < len(sorted) && strings.Compare(sorted[n], key) <= 0 {
		n++
	}
	return n
}

// modelText writes a text in quotes.
func modelText(s string) string {
	text := ""
	for _, c := range []byte(s) {
		if special, is := map[byte]string{'"': `\"`, '\\': `\\`, '\n': `\n`, '\t': `\t`}[c]; is {
			text += special
		} else if c < 0x20 || c > 0x7e {
			text += fmt.Sprintf("\\x%02x", c)
		} else {
			text += string(rune(c))
		}
	}
	return `"` + text + `"`
}

// modelChoice writes the split's expression from its end on.
func modelChoice(bounds []string) string {
	text := fmt.Sprint(len(bounds))
	for k := len(bounds) - 1; k >= 0; k-- {
		if k < len(bounds)-1 {
			text = " " + text
		}
		text = fmt.Sprint("if key<", modelText(bounds[k]), "then", k, "else", text)
	}
	return text
}

func modelSpread(p api.Plan, task int, bounds ...string) (api.Plan, api.Errno) {
	if _, _, e := shape.Build(p); e != api.OK {
		return api.Plan{}, e
	}
	if task < 0 || task >= len(p.Tasks) || !strings.Contains(" 4 9 10 ", fmt.Sprint(" ", p.Tasks[task].Kind, " ")) {
		return api.Plan{}, api.ErrScaleTask
	}
	if len(bounds) < 1 || len(bounds) > 3 || !sort.StringsAreSorted(bounds) {
		return api.Plan{}, api.ErrScaleBounds
	}
	seen := map[string]int{}
	for _, b := range bounds {
		if seen[b]++; len(b) > 12 || seen[b] > 1 {
			return api.Plan{}, api.ErrScaleBounds
		}
	}
	if len(modelChoice(bounds)) > 100 {
		return api.Plan{}, api.ErrScaleBounds
	}
	q := modelWide(p, task, bounds)
	if _, _, e := shape.Build(q); e != api.OK {
		return api.Plan{}, e
	}
	return q, api.OK
}

func modelWide(p api.Plan, task int, bounds []string) api.Plan {
	taken := map[string]bool{}
	for _, t := range p.Tasks {
		taken[t.Name] = true
	}
	next := 0
	name := func() string {
		for taken[fmt.Sprint("x", next)] {
			next++
		}
		next++
		return fmt.Sprint("x", next-1)
	}
	q := api.Plan{Cap: p.Cap, Tasks: append([]api.Task(nil), p.Tasks...)}
	old := p.Tasks[task]
	split := len(q.Tasks)
	q.Tasks = append(q.Tasks, api.Task{Name: name(), Kind: api.Split, Exprs: []string{modelChoice(bounds)}})
	copies := []int{task}
	for range bounds {
		copies = append(copies, len(q.Tasks))
		q.Tasks = append(q.Tasks, api.Task{Name: name(), Kind: old.Kind, Num: old.Num, Exprs: old.Exprs})
	}
	union := len(q.Tasks)
	q.Tasks = append(q.Tasks, api.Task{Name: name(), Kind: api.Union})
	for _, e := range p.Edges {
		if e.To == task {
			e = api.Edge{From: e.From, Out: e.Out, To: split}
		}
		if e.From == task {
			e = api.Edge{From: union, To: e.To, In: e.In}
		}
		q.Edges = append(q.Edges, e)
	}
	for k, n := range copies {
		q.Edges = append(q.Edges, api.Edge{From: split, Out: k, To: n})
	}
	for k, n := range copies {
		q.Edges = append(q.Edges, api.Edge{From: n, To: union, In: k})
	}
	return q
}

// modelState gives what a task of the spread plan keeps, of the states of the plan.
func modelState(states []api.State, task, number int, bounds []string) api.State {
	place := number - len(states)
	switch {
	case number == task:
		place = 0
	case number < len(states):
		return states[number]
	case place == 0 || place == len(bounds)+1:
		return api.State{}
	}
	s := api.State{Num: states[task].Num}
	for _, cell := range states[task].Cells {
		if modelPlace(cell.Key, bounds...) == place {
			s.Cells = append(s.Cells, cell)
		}
	}
	return s
}

func modelMove(p api.Plan, tapes [][]api.Record, task int, c api.Config, bounds ...string) (api.Config, api.Errno) {
	q, e := modelSpread(p, task, bounds...)
	if e != api.OK {
		return api.Config{}, e
	}
	f, e := flow.New(p, tapes)
	if e != api.OK {
		return api.Config{}, e
	}
	if f.Fits(c) != api.OK {
		return api.Config{}, api.ErrFlowFit
	}
	m := api.Config{Outs: c.Outs, Lanes: make([][]api.Record, len(q.Edges))}
	for k := range q.Tasks {
		m.States = append(m.States, modelState(c.States, task, k, bounds))
	}
	copy(m.Lanes, c.Lanes)
	return m, api.OK
}

// modelFollow asks the task's operator itself what each record lets it send.
func modelFollow(p api.Plan, tapes [][]api.Record, task int, c api.Config, l []api.Event, bounds ...string) ([]api.Event, api.Errno) {
	if _, e := modelMove(p, tapes, task, c, bounds...); e != api.OK {
		return nil, e
	}
	f, _ := flow.New(p, tapes)
	sh, _, _ := shape.Build(p)
	g, _ := stage.New(p.Tasks[task], 1, 1)
	n := len(p.Tasks)
	var all []api.Event
	for _, event := range l {
		after, e := f.Step(c, event)
		if e != api.OK {
			return nil, e
		}
		if event.Task == task {
			r := c.Lanes[sh.Ins[task][0]][0]
			place := modelPlace(r.Key, bounds...)
			all = append(all, api.Event{Task: n})
			if place == 0 {
				all = append(all, api.Event{Task: task})
			} else {
				all = append(all, api.Event{Task: n + place})
			}
			if _, sends, _ := g.Step(c.States[task], 0, r); len(sends) > 0 {
				all = append(all, api.Event{Task: n + len(bounds) + 1, Port: place})
			}
		} else {
			all = append(all, event)
		}
		c = after
	}
	return all, api.OK
}

func modelShot(p api.Plan, tapes [][]api.Record, task int, s api.Shot, bounds ...string) (api.Shot, api.Errno) {
	q, e := modelSpread(p, task, bounds...)
	if e != api.OK {
		return api.Shot{}, e
	}
	if _, e := flow.New(p, tapes); e != api.OK {
		return api.Shot{}, e
	}
	sh, _, _ := shape.Build(p)
	if e := heal.Fits(p, sh, tapes, s); e != api.OK {
		return api.Shot{}, e
	}
	var states []api.State
	for _, part := range s.Parts {
		states = append(states, part.State)
	}
	m := api.Shot{Id: s.Id, Sum: heal.Sum(q, tapes)}
	for k := range q.Tasks {
		part := api.Part{State: modelState(states, task, k, bounds)}
		switch {
		case k == len(p.Tasks):
			part.Logs = s.Parts[task].Logs
		case k == len(q.Tasks)-1:
			part.Logs = make([][]api.Record, len(bounds)+1)
		case k == task || k > len(p.Tasks):
			part.Logs = make([][]api.Record, 1)
		default:
			part.Logs, part.Pend = s.Parts[k].Logs, s.Parts[k].Pend
		}
		m.Parts = append(m.Parts, part)
	}
	return m, api.OK
}

// modelFiles asks an engine for the newest shot, and lays all bytes down by itself.
func modelFiles(text string, tapes []string, name string, files []api.File, bounds ...string) (string, []api.File, error) {
	e, err := engine.New(text, tapes, api.Aligned, files)
	if err != nil {
		return "", nil, err
	}
	p, _ := plan.ParsePlan(text)
	task := -1
	for k, t := range p.Tasks {
		if t.Name == name {
			task = k
		}
	}
	q, no := modelSpread(p, task, bounds...)
	if no != api.OK {
		return "", nil, no
	}
	wide, err := plan.PrintPlan(q)
	if err != nil {
		return "", nil, err
	}
	sh, _, _ := shape.Build(p)
	var all []api.File
	for _, sink := range sh.Sinks {
		for _, f := range files {
			if f.Name == fmt.Sprintf("out-%02d", sink) {
				_, size := outlet.Scan(f.Data[:f.Synced])
				all = append(all, api.File{Name: f.Name, Data: f.Data[:size], Synced: size})
			}
		}
	}
	if id := e.Status().Last; id > 0 {
		stored, lost := modelStored(e, p, task, tapes, bounds)
		if lost != nil {
			return "", nil, lost
		}
		all = append(all, stored...)
	}
	sort.Slice(all, func(a, b int) bool { return all[a].Name < all[b].Name })
	return wide, all, nil
}

// modelStored gives the files of the shot at which an engine has come up, once it is moved: full segments, and their manifest.
func modelStored(e *engine.Engine, p api.Plan, task int, texts, bounds []string) ([]api.File, *api.Lost) {
	var tapes [][]api.Record
	for _, text := range texts {
		l, _ := plan.ParseTape(text)
		tapes = append(tapes, l)
	}
	old, _ := e.Shot(e.Status().Last)
	s, no := modelShot(p, tapes, task, old, bounds...)
	if no != api.OK || equal.Shot(s, api.Shot{}) {
		panic(fmt.Sprint("no shot: error ", int(no)))
	}
	var all []api.File
	m := api.Manifest{Id: s.Id, Sum: s.Sum}
	add := func(name string, body []byte, no api.Errno) *api.Lost {
		data, why := frame.Wrap(body)
		if no == api.OK {
			no = why
		}
		if no != api.OK {
			return &api.Lost{Id: s.Id, Name: name, Err: no}
		}
		all = append(all, api.File{Name: name, Data: data, Synced: len(data)})
		m.Rows = append(m.Rows, api.Row{Size: len(data), Check: frame.Sum(body)})
		return nil
	}
	for k, part := range s.Parts {
		body, no := wire.PutSegment(api.Segment{Id: s.Id, Task: k, State: part.State, Logs: part.Logs, Pend: part.Pend})
		if lost := add(fmt.Sprintf("seg-%04d-%02d", s.Id, k), body, no); lost != nil {
			return nil, lost
		}
	}
	body, no := wire.PutManifest(m)
	lost := add(fmt.Sprintf("man-%04d", s.Id), body, no)
	return all, lost
}
