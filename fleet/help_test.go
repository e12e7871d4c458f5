package fleet_test

import (
	"fmt"
	"reflect"
	"slices"
	"strconv"
	"strings"
	"testing"

	"eddy/api"
	"eddy/equal"
	"eddy/fleet"
	"eddy/flow"
	"eddy/pen"
	"eddy/plan"
)

// The section of the chapter whose rules have no numbers.
const rules = "P24, The face"

// A system is a Fleet, or the model of one.
type system interface {
	Pick(task, port int) int
	Tick(edge int) int
	Deliver(i int) bool
	Drop(i int) bool
	Copy(i int) bool
	Flip(i, bit int) bool
	Trigger() (int, api.Errno)
	Post() (api.Shot, int)
	Abort() (int, api.Errno)
	Flights() []api.Flight
	Config() api.Config
	Here() []int
	Trail() []api.Trail
}

// A call is written as its words: 1.0, a pick of task 1 at port 0; tick, an edge; deliver, drop or copy, a packet; flip, a packet and a bit; trigger; post; abort; flights; config; here; trail.
type call struct {
	What string
	A, B int
}

// An answer is what a call answers, so much of it as the call has.
type answer struct {
	Err     api.Errno
	Number  int
	Ok      bool
	Shot    api.Shot
	Flights []api.Flight
	Config  api.Config
	Here    []int
	Trail   []api.Trail
}

func (c call) of(s system) answer {
	var a answer
	switch c.What {
	case "pick":
		a.Number = s.Pick(c.A, c.B)
	case "tick":
		a.Number = s.Tick(c.A)
	case "deliver":
		a.Ok = s.Deliver(c.A)
	case "drop":
		a.Ok = s.Drop(c.A)
	case "copy":
		a.Ok = s.Copy(c.A)
	case "flip":
		a.Ok = s.Flip(c.A, c.B)
	case "trigger":
		a.Number, a.Err = s.Trigger()
	case "post":
		a.Shot, a.Number = s.Post()
	case "abort":
		a.Number, a.Err = s.Abort()
	case "flights":
		a.Flights = s.Flights()
	case "config":
		a.Config = s.Config()
	case "here":
		a.Here = s.Here()
	case "trail":
		a.Trail = s.Trail()
	default:
		panic("no call: " + c.What)
	}
	return a
}

// questions gives what can be asked at any time.
func questions() []call {
	return []call{{What: "flights"}, {What: "config"}, {What: "here"}, {What: "trail"}}
}

// isPlain tells whether it is a call that has to do with no network.
func (c call) isPlain() bool {
	return slices.Contains([]string{"pick", "trigger", "post", "abort", "config", "trail"}, c.What)
}

func picked(task, port int) call { return call{"pick", task, port} }

// called reads a call.
func called(s string) call {
	words := strings.Fields(s)
	if task, port, ok := strings.Cut(words[0], "."); ok {
		return picked(pen.ReadNumber(task), pen.ReadNumber(port))
	}
	c := call{What: words[0]}
	if len(words) > 1 {
		c.A = pen.ReadNumber(words[1])
	}
	if len(words) > 2 {
		c.B = pen.ReadNumber(words[2])
	}
	return c
}

func (c call) String() string {
	switch c.What {
	case "pick":
		return fmt.Sprint(c.A, ".", c.B)
	case "tick", "deliver", "drop", "copy":
		return fmt.Sprint(c.What, " ", c.A)
	case "flip":
		return fmt.Sprint(c.What, " ", c.A, " ", c.B)
	}
	return c.What
}

// didTold writes what a step did.
func didTold(did int) string {
	words := []string{"nothing", "step", "mark", "block", "empty", "held", "trigger", "ack", "ready", "complete", "abort", "down", "up", "halt", "rig"}
	if did < 0 || did >= len(words) {
		return "did " + strconv.Itoa(did)
	}
	return words[did]
}

func errorTold(e api.Errno) string {
	words := []string{"new", "under", "ids", "other", "task", "twice", "none", "not ready"}
	if at := int(e) - 140; at >= 0 && at < len(words) {
		return words[at]
	}
	return "error " + strconv.Itoa(int(e))
}

// shotTold writes a shot: its number, its sum, and of each part the state, the logs in brackets and the pending output in angles; an empty shot is not written.
func shotTold(s api.Shot) string {
	if equal.Shot(s, api.Shot{}) {
		return ""
	}
	text := fmt.Sprint(": ", s.Id, " ", s.Sum)
	for _, p := range s.Parts {
		text += " {" + pen.TellState(p.State)
		for _, l := range p.Logs {
			text += " [" + pen.TellRecords(l) + "]"
		}
		if len(p.Pend) > 0 {
			text += " <" + pen.TellRecords(p.Pend) + ">"
		}
		text += "}"
	}
	return text
}

// told writes the answer of a call.
func (c call) told(a answer) string {
	switch c.What {
	case "pick":
		return didTold(a.Number)
	case "post":
		return didTold(a.Number) + shotTold(a.Shot)
	case "deliver", "drop", "copy", "flip":
		return map[bool]string{true: "yes", false: "no"}[a.Ok]
	case "flights":
		return flightsTold(a.Flights)
	case "config":
		return pen.TellConfig(a.Config)
	case "here":
		return strings.Trim(fmt.Sprint(a.Here), "[]")
	case "trail":
		return pen.TellTrail(a.Trail)
	}
	if a.Err == api.OK {
		return strconv.Itoa(a.Number)
	} else if a.Number != 0 {
		return errorTold(a.Err) + " and " + strconv.Itoa(a.Number)
	}
	return errorTold(a.Err)
}

func same(a, b answer) bool {
	return a.Err == b.Err && a.Number == b.Number && a.Ok == b.Ok && equal.Shot(a.Shot, b.Shot) && slices.EqualFunc(a.Flights, b.Flights, sameFlight) &&
		equal.Config(a.Config, b.Config) && slices.Equal(a.Here, b.Here) && slices.Equal(a.Trail, b.Trail)
}

func sameFlight(a, b api.Flight) bool {
	return a.From == b.From && a.To == b.To && slices.Equal(a.Data, b.Data)
}

// A kind is what a fleet is made of.
type kind struct {
	plan  api.Plan
	tapes [][]api.Record
	mode  int
	place []int
	start api.Config
	next  int
	sum   uint32
}

// kindOf gives a plan with tapes, at its initial configuration, its tasks at these machines; the mode is Recorded, the first snapshot is 1, the sum 77.
func kindOf(p api.Plan, tapes string, place ...int) kind {
	k := kind{plan: p, tapes: pen.ReadLists(tapes), mode: api.Recorded, place: place, next: 1, sum: 77}
	f, e := flow.New(p, k.tapes)
	if e != api.OK {
		panic("no plan, or no tapes for it")
	}
	k.start = f.Start()
	return k
}

func (k kind) in(mode int) kind {
	k.mode = mode
	return k
}

func (k kind) from(next int) kind {
	k.next = next
	return k
}

// with gives the kind with another bound of its lanes.
func (k kind) with(room int) kind {
	k.plan.Cap = room
	return k
}

// at gives the kind at another configuration.
func (k kind) at(states, lanes, outs string) kind {
	k.start = pen.ReadConfig(states, lanes, outs)
	return k
}

// on gives the kind with its tasks at other machines.
func (k kind) on(place ...int) kind {
	k.place = place
	return k
}

func (k kind) String() string {
	text, _ := plan.PrintPlan(k.plan)
	return fmt.Sprintf("the plan\n%swith the tapes %s in mode %d at the machines %v from %s on, next %d, sum %d", text, pen.TellLists(k.tapes), k.mode, k.place, pen.TellConfig(k.start), k.next, k.sum)
}

func (k kind) made() (*fleet.Fleet, api.Errno) {
	return fleet.New(k.plan, k.tapes, k.mode, k.place, k.start, k.next, k.sum)
}

func (k kind) open(t *testing.T) *fleet.Fleet {
	t.Helper()
	f, e := k.made()
	if e != api.OK || f == nil {
		t.Fatalf("P24.1: %v: error %d", k, e)
	}
	return f
}

// flow gives the marker-free system of the kind's plan.
func (k kind) flow(t *testing.T) *flow.Flow {
	t.Helper()
	f, e := flow.New(k.plan, k.tapes)
	if e != api.OK {
		t.Fatalf("P9.1: %v: error %d", k, e)
	}
	return f
}

// remote tells whether an edge lies between two machines.
func (k kind) remote(edge int) bool {
	e := k.plan.Edges[edge]
	return k.place[e.From] != k.place[e.To]
}

// remotes gives the edges that lie between two machines.
func (k kind) remotes() []int {
	var all []int
	for edge := range k.plan.Edges {
		if k.remote(edge) {
			all = append(all, edge)
		}
	}
	return all
}

// spaced writes a text with one blank where there are several.
func spaced(s string) string { return strings.Join(strings.Fields(s), " ") }

// line is the plan of the chapter's first example.
func line() api.Plan { return pen.ReadPlan("s source 0", "k sink", "s.0 k.0") }

// chain has three tasks one behind the other.
func chain() api.Plan {
	return pen.ReadPlan("s source 0", "u union", "k sink", "s.0 u.0", "u.0 k.0")
}

// pair lays two sources' records together.
func pair() api.Plan {
	return pen.ReadPlan("a source 0", "b source 1", "u union", "k sink", "a.0 u.0", "b.0 u.1", "u.0 k.0")
}

// loop lets a record go round at most twice.
func loop() api.Plan {
	return pen.ReadPlan("s source 0", "h head", "t tail 0 ; 2", "k sink", "s.0 h.0", "h.0 t.0", "t.0 h.1", "t.1 k.0")
}

// fork gives each record to three sinks, which stand in no order of their ports.
func fork() api.Plan {
	return pen.ReadPlan("l sink", "s source 0", "k sink", "e tee", "m sink", "e.1 k.0", "s.0 e.0", "e.2 l.0", "e.0 m.0")
}

// splits sends a record to the one sink or the other, by its value.
func splits() api.Plan {
	return pen.ReadPlan("s source 0", "p split val", "k sink", "l sink", "s.0 p.0", "p.0 k.0", "p.1 l.0")
}

// filters lets no record with the value 0 go on.
func filters() api.Plan {
	return pen.ReadPlan("s source 0", "f filter val", "k sink", "s.0 f.0", "f.0 k.0")
}

// plays makes a fleet and plays lines: a call each, and behind an equals sign what it must answer. A line `forge 0 data 0.1 a=1` turns as many bits of packet 0 as make it this one; the packet `last` is the one that is in flight at the end. The model is held against the same lines.
func plays(t *testing.T, promise string, k kind, lines ...string) {
	t.Helper()
	for _, s := range []struct {
		name string
		system
	}{{"", k.open(t)}, {"the model: ", k.model()}} {
		for n, line := range lines {
			if !heard(s, line, func(got string) {
				t.Errorf("%s%s: %v: %s: it answers %s", s.name, promise, k, strings.Join(lines[:n+1], "; "), got)
			}) {
				break
			}
		}
	}
}

// heard plays a line, and tells whether the answer is the one that it asks for.
func heard(s system, line string, wrong func(got string)) bool {
	line = strings.Replace(line, " last", fmt.Sprint(" ", len(s.Flights())-1), 1)
	if words, ok := strings.CutPrefix(line, "forge "); ok {
		number, text, _ := strings.Cut(words, " ")
		forge(s, pen.ReadNumber(number), readLetter(text).packet())
		return true
	}
	words, want, asked := strings.Cut(line, " =")
	c := called(words)
	got := c.told(c.of(s))
	if asked && spaced(got) != spaced(want) {
		wrong(got)
		return false
	}
	return true
}

// forge turns as many bits of a packet in flight as make another one of it.
func forge(s system, i int, packet []byte) {
	for _, bit := range bitsBetween(s.Flights()[i].Data, packet) {
		s.Flip(i, bit)
	}
}

const allModes, slowModes = "aligned recorded overtaking", "aligned recorded"

// inModes plays lines in the modes that are named.
func inModes(t *testing.T, promise, modes string, k kind, lines ...string) {
	t.Helper()
	for _, mode := range strings.Fields(modes) {
		plays(t, promise, k.in(slices.Index(strings.Fields(allModes), mode)+1), lines...)
	}
}

// wantCases fails the test where a case was met too seldom.
func wantCases(t *testing.T, met map[string]int, least int, cases ...string) {
	t.Helper()
	for _, one := range cases {
		if met[one] < least {
			t.Errorf("the case %q is drawn %d times, want %d", one, met[one], least)
		}
	}
}

// TestHelp: the tests read what they write.
func TestHelp(t *testing.T) {
	for _, s := range []string{"0.0", "-1.12", "tick 3", "deliver 0", "drop -1", "copy 7", "flip 2 40", "trigger", "post", "abort", "flights", "config", "here", "trail"} {
		if got := called(s).String(); got != s {
			t.Errorf("the call %q is told as %q", s, got)
		}
	}
	for _, s := range []string{"data 2.7 a=1", "data 0.1 =none", "data 23.1073741824 a=[1, \"x\"]@0@9", "data 0.128 marker 1", "data 1.2 marker 9999", "data 1.2 4d 00", "data 1.2 52", "answer 2 wants 7 word 3", "answer 0 wants 1073741825 word 1073741824"} {
		l := readLetter(s)
		if got := l.String(); got != s {
			t.Errorf("the letter %q is told as %q", s, got)
		}
		if got, ok := letterOf(l.packet()); !ok || !reflect.DeepEqual(got, l) && (len(got.message) > 0 || len(l.message) > 0) {
			t.Errorf("the letter %q is read as %v, %v", s, got, ok)
		}
	}
	for _, s := range []string{"data 24.1 a=1", "data 0.0 a=1", "data 0.1073741825 a=1", "answer 0 wants 1073741826 word 0", "answer 0 wants 1 word 1073741825", "answer 24 wants 1 word 0"} {
		if l, ok := letterOf(readLetter(s).packet()); ok {
			t.Errorf("%q is read as the letter %v", s, l)
		}
	}
	if got := flightsTold([]api.Flight{{From: 1, To: 2, Data: readLetter("data 0.1 b=2").packet()}, {From: 3, Data: []byte{1}}}); got != "1>2 data 0.1 b=2, 3>0 spoilt" {
		t.Errorf("packets in flight are told as %q", got)
	}
	if got := bitsBetween([]byte{1, 0xF0}, []byte{3, 0x70}); !slices.Equal(got, []int{1, 15}) {
		t.Errorf("the bits that differ are %v", got)
	}
}

func TestNumbersAreTheChapters(t *testing.T) {
	got := []int{int(api.ErrFleetPlace), api.MaxMachines, api.MaxWindow, api.MaxFlights, api.MaxNum - api.MaxId, api.MaxId}
	for k, want := range []int{230, 8, 16, 256, 1073731825, 9999} {
		if got[k] != want {
			t.Errorf("number %d is %d, want %d", k, got[k], want)
		}
	}
}
