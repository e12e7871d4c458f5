package fresh_test

import (
	"fmt"
	"reflect"
	"testing"
	"unsafe"

	"eddy/api"
	"eddy/equal"
	"eddy/fresh"
	"eddy/memory"
)

// lent gives a text in bytes of its own, which can be written over afterwards.
func lent(s string) string {
	b := []byte(s)
	return unsafe.String(unsafe.SliceData(b), len(b))
}

func spoilText(s string) {
	for k := range len(s) {
		unsafe.Slice(unsafe.StringData(s), len(s))[k] = '#'
	}
}

// sample gives a record, not a valid one, in which all fields are filled and every list has spare room.
func sample() api.Record {
	inner := append(make([]api.Value, 0, 4), api.Value{Kind: api.Text, Text: lent("inner")}, api.Value{Kind: 9, Int: 7})
	outer := append(make([]api.Value, 0, 4), api.Value{Kind: api.List, Int: 3, Text: lent("list"), Items: inner}, api.Value{Kind: -1, Items: append(make([]api.Value, 0, 2), api.Value{})})
	return api.Record{Key: lent("a key that is too long"), Val: api.Value{Kind: api.List, Items: outer}, Loops: append(make([]int, 0, 5), -1, 99)}
}

// spoil writes over all that hangs on a sample, its spare room too.
func spoil(r api.Record) {
	inner := r.Val.Items[0].Items
	spoilText(r.Key)
	spoilText(r.Val.Items[0].Text)
	spoilText(inner[0].Text)
	loops := r.Loops[:cap(r.Loops)]
	for k := range loops {
		loops[k] = 4711
	}
	for _, l := range [][]api.Value{inner, r.Val.Items[1].Items, r.Val.Items} {
		l = l[:cap(l)]
		for k := range l {
			l[k] = api.Value{Kind: 4711}
		}
	}
}

// sampleState gives a state, not a valid one, whose cells hold what a sample holds.
func sampleState() api.State {
	r := sample()
	cells := append(make([]api.Cell, 0, 4), api.Cell{Key: r.Key, Vals: r.Val.Items}, api.Cell{Key: lent("b")})
	return api.State{Num: -3, Cells: cells}
}

// spoilState writes over all that hangs on a sampleState, its spare room too.
func spoilState(s api.State) {
	spoilText(s.Cells[1].Key)
	spoil(api.Record{Key: s.Cells[0].Key, Val: api.Value{Items: s.Cells[0].Vals}})
	cells := s.Cells[:cap(s.Cells)]
	for k := range cells {
		cells[k] = api.Cell{Key: "spoilt"}
	}
}

// sampleDelta gives a difference of states, not a fit one, whose cells are those of a sampleState.
func sampleDelta() api.Delta {
	return api.Delta{Num: -3, Set: sampleState().Cells, Gone: append(make([]string, 0, 4), lent("gone"), lent(""), lent("gone"))}
}

// spoilDelta writes over all that hangs on a sampleDelta, its spare room too.
func spoilDelta(d api.Delta) {
	spoilState(api.State{Cells: d.Set})
	for _, key := range d.Gone {
		spoilText(key)
	}
	gone := d.Gone[:cap(d.Gone)]
	for k := range gone {
		gone[k] = "spoilt"
	}
}

// sampleConfig gives a configuration, not one of a plan, whose lists have spare room.
func sampleConfig() api.Config {
	records := func() []api.Record { return append(make([]api.Record, 0, 3), sample(), api.Record{Key: lent("b")}) }
	return api.Config{
		States: append(make([]api.State, 0, 3), sampleState(), api.State{Num: 7}),
		Lanes:  append(make([][]api.Record, 0, 4), records(), nil, records()),
		Outs:   append(make([][]api.Record, 0, 2), records()),
	}
}

// spoilConfig writes over all that hangs on a sampleConfig, its spare room too.
func spoilConfig(c api.Config) {
	spoilState(c.States[0])
	for _, lists := range [][][]api.Record{c.Lanes, c.Outs} {
		for k, l := range lists {
			if len(l) > 0 {
				spoil(l[0])
				spoilText(l[1].Key)
			}
			l = l[:cap(l)]
			for k := range l {
				l[k] = api.Record{Key: "spoilt"}
			}
			lists[k] = nil
		}
		lists = lists[:cap(lists)]
		for k := range lists {
			lists[k] = []api.Record{{Key: "spoilt"}}
		}
	}
	states := c.States[:cap(c.States)]
	for k := range states {
		states[k] = api.State{Num: 4711}
	}
}

func TestACopyIsTheSameFieldByField(t *testing.T) {
	r := sample()
	if got := fresh.Record(r); !reflect.DeepEqual(got, r) {
		t.Errorf("Record gives %+v, want %+v", got, r)
	}
	if got := fresh.Value(r.Val); !reflect.DeepEqual(got, r.Val) {
		t.Errorf("Value gives %+v, want %+v", got, r.Val)
	}
	s := sampleState()
	if got := fresh.State(s); !reflect.DeepEqual(got, s) {
		t.Errorf("State gives %+v, want %+v", got, s)
	}
	if got := fresh.State(api.State{}); !reflect.DeepEqual(got, api.State{}) {
		t.Errorf("State gives %+v, want zeros", got)
	}
	d := sampleDelta()
	if got := fresh.Delta(d); !reflect.DeepEqual(got, d) {
		t.Errorf("Delta gives %+v, want %+v", got, d)
	}
	if got := fresh.Delta(api.Delta{}); !reflect.DeepEqual(got, api.Delta{}) {
		t.Errorf("Delta gives %+v, want zeros", got)
	}
	c := sampleConfig()
	if got := fresh.Config(c); !reflect.DeepEqual(got, c) {
		t.Errorf("Config gives %+v, want %+v", got, c)
	}
	if got := fresh.Config(api.Config{}); !reflect.DeepEqual(got, api.Config{}) {
		t.Errorf("Config gives %+v, want zeros", got)
	}
	if got := fresh.Records(c.Outs[0]); !reflect.DeepEqual(got, c.Outs[0]) {
		t.Errorf("Records gives %+v, want %+v", got, c.Outs[0])
	}
	if got := fresh.Record(api.Record{}); !reflect.DeepEqual(got, api.Record{}) {
		t.Errorf("Record gives %+v, want zeros", got)
	}
}

func TestACopySharesNothing(t *testing.T) {
	r := sample()
	got, val := fresh.Record(r), fresh.Value(r.Val)
	spoil(r)
	if !reflect.DeepEqual(got, sample()) || !reflect.DeepEqual(val, sample().Val) {
		t.Errorf("a copy is written over with its original: %+v, %+v", got, val)
	}
	r = sample()
	spoil(fresh.Record(r))
	if !reflect.DeepEqual(r, sample()) {
		t.Errorf("an original is written over with its copy: %+v", r)
	}
	s := sampleState()
	state := fresh.State(s)
	spoilState(s)
	if !reflect.DeepEqual(state, sampleState()) {
		t.Errorf("a copy is written over with its original: %+v", state)
	}
	s = sampleState()
	spoilState(fresh.State(s))
	if !reflect.DeepEqual(s, sampleState()) {
		t.Errorf("an original is written over with its copy: %+v", s)
	}
	d := sampleDelta()
	delta := fresh.Delta(d)
	spoilDelta(d)
	if !reflect.DeepEqual(delta, sampleDelta()) {
		t.Errorf("a copy is written over with its original: %+v", delta)
	}
	d = sampleDelta()
	spoilDelta(fresh.Delta(d))
	if !reflect.DeepEqual(d, sampleDelta()) {
		t.Errorf("an original is written over with its copy: %+v", d)
	}
	c := sampleConfig()
	config, records := fresh.Config(c), fresh.Records(c.Outs[0])
	spoilConfig(c)
	if !reflect.DeepEqual(config, sampleConfig()) || !reflect.DeepEqual(records, sampleConfig().Outs[0]) {
		t.Errorf("a copy is written over with its original: %+v, %+v", config, records)
	}
	c = sampleConfig()
	spoilConfig(fresh.Config(c))
	if !reflect.DeepEqual(c, sampleConfig()) {
		t.Errorf("an original is written over with its copy: %+v", c)
	}
}

func TestSpareRoomIsNotKept(t *testing.T) {
	items, loops, cells, keys := make([]api.Value, 3), make([]int, 3), make([]api.Cell, 3), make([]string, 3)
	states, records, lanes := make([]api.State, 3), make([]api.Record, 3), make([][]api.Record, 3)
	for n := range 3 {
		c := fresh.Config(api.Config{States: states[:n], Lanes: lanes[:n], Outs: [][]api.Record{records[:n]}})
		c.States, c.Lanes, c.Outs[0] = append(c.States, api.State{Num: 1}), append(c.Lanes, records), append(c.Outs[0], api.Record{Key: "behind"})
		if states[n].Num != 0 || lanes[n] != nil || records[n].Key != "" {
			t.Errorf("what is appended to a copy of %d states, lanes and records is seen behind the original", n)
		}
		s := fresh.State(api.State{Cells: cells[:n]})
		s.Cells = append(s.Cells, api.Cell{Key: "behind"})
		if cells[n].Key != "" {
			t.Errorf("what is appended to a copy of %d cells is seen behind the original", n)
		}
		d := fresh.Delta(api.Delta{Set: cells[:n], Gone: keys[:n]})
		d.Set, d.Gone = append(d.Set, api.Cell{Key: "behind"}), append(d.Gone, "behind")
		if cells[n].Key != "" || keys[n] != "" {
			t.Errorf("what is appended to a copy of %d cells and keys is seen behind the original", n)
		}
		r := fresh.Record(api.Record{Val: api.Value{Items: items[:n]}, Loops: loops[:n]})
		r.Val.Items, r.Loops = append(r.Val.Items, api.Value{Kind: 1}), append(r.Loops, 1)
		if items[n].Kind != 0 || loops[n] != 0 {
			t.Errorf("what is appended to a copy of %d items is seen behind the original", n)
		}
	}
}

// samplePart gives what a task hands in, not a valid part, of what a sampleConfig holds.
func samplePart() api.Part {
	c := sampleConfig()
	return memory.Roomy(api.Part{State: c.States[0], Logs: append(c.Lanes, []api.Record{}), Pend: c.Outs[0]}, lent)
}

// spoilPart writes over all that hangs on a samplePart, its spare room too.
func spoilPart(p api.Part) {
	m := memory.Of(p)
	for _, text := range m.Texts() {
		spoilText(text)
	}
	m.Scribble()
}

func TestPart(t *testing.T) {
	given := samplePart()
	before := memory.Of(given).Told()
	got := fresh.Part(given)
	if !equal.Part(got, given) || memory.Of(given).Told() != before {
		t.Errorf("the copy of %+v is %+v", given, got)
	}
	spoilPart(given)
	if !equal.Part(got, samplePart()) {
		t.Errorf("a copy is written over with its original: %+v", got)
	}
	given = samplePart()
	got = fresh.Part(given)
	spoilPart(got)
	if memory.Of(given).Told() != before {
		t.Errorf("an original is written over with its copy: %+v", given)
	}
	if got = fresh.Part(samplePart()); !memory.Of(got).Apart() {
		t.Error("lists of a copy share memory")
	}
	if got = fresh.Part(api.Part{}); !reflect.DeepEqual(got, api.Part{}) {
		t.Errorf("Part gives %+v, want zeros", got)
	}
}

// samplePlan gives a plan, not a valid one, in which all fields are filled and every list has spare room.
func samplePlan() api.Plan {
	return memory.Roomy(api.Plan{
		Cap:   -3,
		Tasks: []api.Task{{Name: "a", Kind: 99, Num: -1, Exprs: []string{"no (expr", ""}}, {}, {Name: "a", Exprs: []string{}}},
		Edges: []api.Edge{{From: 1, Out: 2, To: 3, In: 4}, {From: -1}},
	}, lent)
}

func TestPlan(t *testing.T) {
	given := samplePlan()
	before := memory.Of(given).Told()
	got, task := fresh.Plan(given), fresh.Task(given.Tasks[0])
	tell := func(p api.Plan) string { return fmt.Sprintf("%v", p) }
	if tell(got) != tell(samplePlan()) || !reflect.DeepEqual(task, samplePlan().Tasks[0]) || memory.Of(given).Told() != before {
		t.Errorf("the copy of %+v is %+v, that of its first task %+v", given, got, task)
	}
	m := memory.Of(given)
	for _, text := range m.Texts() {
		spoilText(text)
	}
	m.Scribble()
	if tell(got) != tell(samplePlan()) || !reflect.DeepEqual(task, samplePlan().Tasks[0]) {
		t.Errorf("a copy is written over with its original: %+v, %+v", got, task)
	}
	given = samplePlan()
	m = memory.Of(fresh.Plan(given), fresh.Task(given.Tasks[0]))
	m.Scribble()
	if memory.Of(given).Told() != before {
		t.Errorf("an original is written over with its copy: %+v", given)
	}
	if !memory.Of(fresh.Plan(given), fresh.Plan(given), given).Apart() {
		t.Error("lists of copies share memory")
	}
	if got = fresh.Plan(api.Plan{}); !reflect.DeepEqual(got, api.Plan{}) {
		t.Errorf("Plan gives %+v, want zeros", got)
	}
}
