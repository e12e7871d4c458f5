package cut_test

import (
	"fmt"
	"strconv"
	"strings"
	"testing"

	"eddy/api"
	"eddy/cut"
	"eddy/equal"
	"eddy/pen"
)

// A book is a Book, or the model of one.
type book interface {
	Held(port int) bool
	Took(port int, r api.Record) api.Errno
	Mark(port, id int, ahead []api.Record, s api.State, pend []api.Record) (copied bool, e api.Errno)
	Part() (id int, p api.Part, ok bool)
	Now() int
}

// A call is written as its words: held and a port; took, a port and a record's key; mark, a port, an id, the name of a state with its pending output, and the keys of the records ahead; part; now.
type call struct {
	What     string
	Port, Id int
	Rec      api.Record
	Ahead    []api.Record
	State    api.State
	Pend     []api.Record
}

// An answer is what a call answers: of an error, a bool, a number and a part those that it has.
type answer struct {
	Err  api.Errno
	Ok   bool
	Id   int
	Part api.Part
}

func (c call) of(b book) answer {
	var a answer
	switch c.What {
	case "held":
		a.Ok = b.Held(c.Port)
	case "took":
		a.Err = b.Took(c.Port, c.Rec)
	case "mark":
		a.Ok, a.Err = b.Mark(c.Port, c.Id, c.Ahead, c.State, c.Pend)
	case "part":
		a.Id, a.Part, a.Ok = b.Part()
	case "now":
		a.Id = b.Now()
	default:
		panic("no call: " + c.What)
	}
	return a
}

// rec gives a record, of a value and counters by which it is known again.
func rec(key string) api.Record {
	return api.Record{Key: key, Val: api.Value{Kind: api.List, Items: []api.Value{{Kind: api.Text, Text: key}}}, Loops: []int{len(key), 0}}
}

func recs(keys ...string) []api.Record {
	var all []api.Record
	for _, key := range keys {
		all = append(all, rec(key))
	}
	return all
}

// state gives the state of a name; that of - is empty.
func state(name string) api.State {
	if name == "-" {
		return api.State{}
	}
	return api.State{Num: int(name[0]), Cells: []api.Cell{{Key: name, Vals: []api.Value{rec(name).Val}}, {Key: name + "2"}}}
}

// pend gives the pending output of a name; that of - is empty.
func pend(name string) []api.Record {
	if name == "-" {
		return nil
	}
	return recs(name+"3", name+"4")
}

// called reads a call.
func called(s string) call {
	words := strings.Fields(s)
	c := call{What: words[0]}
	if len(words) > 1 {
		c.Port = pen.ReadNumber(words[1])
	}
	switch c.What {
	case "took":
		c.Rec = rec(words[2])
	case "mark":
		c.Id, c.State, c.Pend, c.Ahead = pen.ReadNumber(words[2]), state(words[3]), pend(words[3]), recs(words[4:]...)
	}
	return c
}

func (c call) String() string {
	switch c.What {
	case "part", "now":
		return c.What
	case "took":
		return "took " + strconv.Itoa(c.Port) + " " + recordTold(c.Rec)
	case "mark":
		return strings.TrimSpace(fmt.Sprint("mark ", c.Port, " ", c.Id, " ", copyTold(c.State, c.Pend), " ", recordsTold(c.Ahead)))
	}
	return c.What + " " + strconv.Itoa(c.Port)
}

func recordTold(r api.Record) string {
	if equal.Record(r, rec(r.Key)) {
		return r.Key
	}
	return fmt.Sprintf("%+v", r)
}

func recordsTold(all []api.Record) string {
	var keys []string
	for _, r := range all {
		keys = append(keys, recordTold(r))
	}
	return strings.Join(keys, " ")
}

// copyTold writes a state and a pending output: the name of both, if they have one.
func copyTold(s api.State, p []api.Record) string {
	name := "-"
	if len(s.Cells) > 0 {
		name = s.Cells[0].Key
	}
	if name != "" && equal.State(s, state(name)) && equal.Records(p, pend(name)) {
		return name
	}
	return fmt.Sprintf("%+v with %+v", s, p)
}

func errorTold(e api.Errno) string {
	switch e {
	case api.OK:
		return "ok"
	case api.ErrCutMode:
		return "mode"
	case api.ErrCutPorts:
		return "ports"
	case api.ErrCutPort:
		return "port"
	case api.ErrCutMark:
		return "mark"
	case api.ErrCutHeld:
		return "held"
	}
	return "error " + strconv.Itoa(int(e))
}

// told writes the answer of a call, so much of it as the call has.
func (c call) told(a answer) string {
	switch c.What {
	case "held":
		return strconv.FormatBool(a.Ok)
	case "took":
		return errorTold(a.Err)
	case "now":
		return strconv.Itoa(a.Id)
	case "part":
		return partTold(a)
	}
	if !a.Ok {
		return errorTold(a.Err)
	} else if a.Err != api.OK {
		return errorTold(a.Err) + " and copied"
	}
	return "copied"
}

// partTold writes what Part answers: the id, the copy, and each log in brackets.
func partTold(a answer) string {
	if !a.Ok && a.Id == 0 && equal.Part(a.Part, api.Part{}) {
		return "none"
	}
	words := []string{strconv.Itoa(a.Id), copyTold(a.Part.State, a.Part.Pend)}
	for _, l := range a.Part.Logs {
		words = append(words, "["+recordsTold(l)+"]")
	}
	if !a.Ok {
		words = append(words, "but none")
	}
	return strings.Join(words, " ")
}

func same(a, b answer) bool {
	return a.Err == b.Err && a.Ok == b.Ok && a.Id == b.Id && equal.Part(a.Part, b.Part)
}

// A kind is what a book is made of.
type kind struct{ mode, ports, back int }

func (k kind) String() string {
	return fmt.Sprintf("New(%d, %d, %d)", k.mode, k.ports, k.back)
}

// kinds gives what a book may be made of, with at most so many ports.
func kinds(most int) []kind {
	var all []kind
	for mode := api.Aligned; mode <= api.Overtaking; mode++ {
		for ports := 1; ports <= most; ports++ {
			for back := -1; back < ports; back++ {
				if ports > 1 || back == -1 {
					all = append(all, kind{mode, ports, back})
				}
			}
		}
	}
	return all
}

// kindOf reads a kind: a mode's name, a number of ports, and behind it, if there is one, the back port.
func kindOf(s string) kind {
	words := strings.Fields(s)
	k := kind{ports: pen.ReadNumber(words[1]), back: -1}
	switch words[0] {
	case "aligned":
		k.mode = 1
	case "recorded":
		k.mode = 2
	case "overtaking":
		k.mode = 3
	default:
		panic("no mode: " + s)
	}
	if len(words) > 2 {
		k.back = pen.ReadNumber(words[2])
	}
	return k
}

func (k kind) open(t *testing.T) *cut.Book {
	t.Helper()
	b, e := cut.New(k.mode, k.ports, k.back)
	if e != api.OK || b == nil {
		t.Fatalf("P13.1: %v: error %d", k, e)
	}
	return b
}

// plays makes a book and plays lines: a call each, and behind an equals sign what it must answer.
func plays(t *testing.T, promise, of string, lines ...string) {
	t.Helper()
	b := kindOf(of).open(t)
	for k, line := range lines {
		words, want, asked := strings.Cut(line, "=")
		c := called(words)
		if got := c.told(c.of(b)); asked && got != strings.TrimSpace(want) {
			t.Errorf("%s: a book %s: %s: it answers %s", promise, of, strings.Join(lines[:k+1], "; "), got)
		}
	}
}

// inModes plays lines in the modes that are named.
func inModes(t *testing.T, promise, modes, of string, lines ...string) {
	t.Helper()
	for _, mode := range strings.Fields(modes) {
		plays(t, promise, mode+" "+of, lines...)
	}
}

// TestHelp: the tests read what they write, and the numbers are those of the document.
func TestHelp(t *testing.T) {
	for _, s := range []string{"held -1", "took 0 x", "mark 2 5 A", "mark 0 -7 - p q", "part", "now"} {
		if got := called(s).String(); got != s {
			t.Errorf("the call %q is told as %q", s, got)
		}
	}
	part := api.Part{State: state("A"), Logs: [][]api.Record{nil, recs("y", "z")}, Pend: pend("A")}
	for want, a := range map[string]answer{"none": {}, "5 A [] [y z]": {Ok: true, Id: 5, Part: part}, "5 A [] [y z] but none": {Id: 5, Part: part}, "0 -": {Ok: true}} {
		if got := called("part").told(a); got != want {
			t.Errorf("the answer %+v is told as %q, want %q", a, got, want)
		}
	}
	if k := kindOf("overtaking 3 2"); k != (kind{api.Overtaking, 3, 2}) || kindOf("aligned 1") != (kind{api.Aligned, 1, -1}) || kindOf("recorded 4").mode != api.Recorded {
		t.Errorf("the kind is read as %v", k)
	}
	if n := len(kinds(api.MaxPorts)); n != 3*13 {
		t.Errorf("there are %d kinds of books", n)
	}
	for k, e := range []api.Errno{api.ErrCutMode, api.ErrCutPorts, api.ErrCutPort, api.ErrCutMark, api.ErrCutHeld} {
		if int(e) != 130+k {
			t.Errorf("error %d has the number %d", 130+k, e)
		}
	}
}
