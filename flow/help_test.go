package flow_test

import (
	"fmt"
	"reflect"
	"strconv"
	"strings"
	"testing"

	"eddy/api"
	"eddy/flow"
	"eddy/pen"
	"eddy/plan"
	"eddy/value"
)

// What is written by hand is read by the pen's readers: plans, values, records, states, configurations, events.
var (
	planned = pen.ReadPlan
	val     = pen.ReadValue
	recs    = pen.ReadRecords
	lists   = pen.ReadLists
	state   = pen.ReadState
	config  = pen.ReadConfig
	events  = pen.ReadEvents
)

// line is the plan of the chapter's first example.
func line() api.Plan { return planned("s source 0", "k sink", "s.0 k.0") }

// loop lets a record go round, at most three times, while its value is below 3; each time 1 is added.
func loop() api.Plan {
	return planned("s source 0", "h head", "m map key ; val+1", "t tail val>2 ; 3", "k sink", "s.0 h.0", "h.0 m.0", "m.0 t.0", "t.0 h.1", "t.1 k.0")
}

// every has a task of each kind. The tasks and edges stand in no order of theirs.
func every() api.Plan {
	return planned("k sink", "j join", "s source 1", "m map key ; val+1", "r source 0", "f filter val", "o fold 0 ; acc+val", "u union", "x split val", "e tee", "w window 2",
		"e.1 w.0", "s.0 e.0", "e.0 j.1", "w.0 u.1", "r.0 m.0", "m.0 f.0", "f.0 o.0", "o.0 j.0", "j.0 x.0", "x.1 u.0", "x.0 u.2", "u.0 k.0")
}

// round has the kinds that there is no room for in every.
func round() api.Plan {
	return planned("l sink", "t tail val>1 ; 4", "d dedup", "h head", "s source 2", "h.0 d.0", "t.1 l.0", "d.0 t.0", "t.0 h.1", "s.0 h.0")
}

// tell writes a record, records or a configuration as it is read here; what can't be read so is written whole.
func tell(thing any) string {
	switch x := thing.(type) {
	case api.Record:
		if value.CheckRecord(x) != api.OK {
			return shown(x)
		}
		s := x.Key + "=" + value.Print(x.Val)
		for _, n := range x.Loops {
			s += "@" + strconv.Itoa(n)
		}
		return s
	case []api.Record:
		return told(x, " | ")
	case [][]api.Record:
		return told(x, " / ")
	case api.State:
		s := strconv.Itoa(x.Num)
		for _, c := range x.Cells {
			s += "; " + c.Key + ":" + told(c.Vals, ", ")
		}
		return s
	case api.Value:
		if value.Check(x) == api.OK {
			return value.Print(x)
		}
	case api.Config:
		return "\n\tstates " + told(x.States, " / ") + "\n\tlanes " + tell(x.Lanes) + "\n\toutputs " + tell(x.Outs) + "\n"
	}
	return shown(thing)
}

func told[T any](l []T, between string) string {
	var all []string
	for _, x := range l {
		all = append(all, tell(x))
	}
	return strings.Join(all, between)
}

// shown writes a thing so that a nil list and an empty one look the same, and unlike things don't.
func shown(thing any) string {
	return strings.NewReplacer("(nil)", "{}", "api.", "").Replace(fmt.Sprintf("%#v", thing))
}

// same tells whether two things are the same, nil and empty lists being so.
func same(a, b any) bool { return reflect.DeepEqual(a, b) || shown(a) == shown(b) }

// clone copies a thing and all that hangs on it.
func clone[T any](x T) T { return deep(reflect.ValueOf(x)).Interface().(T) }

func deep(v reflect.Value) reflect.Value {
	switch v.Kind() {
	case reflect.Slice:
		all := reflect.MakeSlice(v.Type(), v.Len(), v.Len())
		for k := range v.Len() {
			all.Index(k).Set(deep(v.Index(k)))
		}
		return all
	case reflect.Struct:
		all := reflect.New(v.Type()).Elem()
		for k := range v.NumField() {
			all.Field(k).Set(deep(v.Field(k)))
		}
		return all
	case reflect.String:
		return reflect.ValueOf(strings.Clone(v.String()))
	}
	return v
}

// A tried flow is one that a test asks, with what it was made of.
type tried struct {
	*flow.Flow
	model
}

func (f tried) String() string {
	text, _ := plan.PrintPlan(f.plan)
	return "the plan\n" + text + "with the tapes " + tell(f.tapes)
}

func made(t *testing.T, p api.Plan, tapes [][]api.Record) tried {
	t.Helper()
	f, e := flow.New(p, tapes)
	if f == nil || e != api.OK {
		t.Fatalf("P9.1: New(%+v, %s) answers error %d", p, tell(tapes), e)
	}
	return tried{f, model{p, tapes}}
}

// refusesNew fails the test where New answers another error, or a flow beside it.
func refusesNew(t *testing.T, promise string, p api.Plan, tapes [][]api.Record, want api.Errno) {
	t.Helper()
	if f, e := flow.New(p, tapes); e != want || f != nil {
		t.Errorf("%s: New(%+v, %s) answers %v, error %d, want error %d", promise, p, tell(tapes), f, e, want)
	}
}

// wants fails the test where a step answers another configuration.
func (f tried) wants(t *testing.T, promise string, c api.Config, e api.Event, want api.Config) {
	t.Helper()
	got, err := f.Step(c, e)
	if err != api.OK || !same(got, want) {
		t.Errorf("%s: %v: Step(%v, %v) answers %v, error %d, want %v", promise, f, tell(c), e, tell(got), err, tell(want))
	}
}

// refuses fails the test where a step answers another error, or anything beside it.
func (f tried) refuses(t *testing.T, promise string, c api.Config, e api.Event, want api.Errno) {
	t.Helper()
	got, err := f.Step(c, e)
	if err != want || !same(got, api.Config{}) {
		t.Errorf("%s: %v: Step(%v, %v) answers %v, error %d, want error %d and zeros", promise, f, tell(c), e, tell(got), err, want)
	}
}

// replays fails the test where Replay answers otherwise.
func (f tried) replays(t *testing.T, promise string, c api.Config, l []api.Event, want api.Config, count int, wantErr api.Errno) {
	t.Helper()
	got, n, err := f.Replay(c, l)
	if n != count || err != wantErr || !same(got, want) {
		t.Errorf("%s: %v: Replay(%v, %v) answers %v, %d, error %d, want %v, %d, error %d", promise, f, tell(c), l, tell(got), n, err, tell(want), count, wantErr)
	}
}

// after gives the configuration behind an event that can happen.
func (f tried) after(t *testing.T, c api.Config, e api.Event) api.Config {
	t.Helper()
	behind, err := f.Step(c, e)
	if err != api.OK {
		t.Fatalf("P9.5: %v: %v can happen in %v, and Step answers error %d", f, e, tell(c), err)
	}
	return behind
}

// run plays events that can all happen.
func (f tried) run(t *testing.T, c api.Config, l []api.Event) api.Config {
	t.Helper()
	after, n, err := f.Replay(c, l)
	if n != len(l) || err != api.OK {
		t.Fatalf("P9.7: %v: Replay(%v, %v) answers %d, error %d", f, tell(c), l, n, err)
	}
	return after
}

func TestNumbersAreTheChapters(t *testing.T) {
	got := []int{int(api.ErrFlowTape), int(api.ErrFlowEvent), int(api.ErrFlowStuck), int(api.ErrFlowFit), api.MaxTapes, api.MaxTape, api.MaxNum}
	for k, want := range []int{90, 91, 92, 93, 4, 64, 1 << 30} {
		if got[k] != want {
			t.Errorf("number %d is %d, want %d", k, got[k], want)
		}
	}
}
