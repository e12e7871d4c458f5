package post_test

import (
	"fmt"
	"slices"
	"strconv"
	"strings"
	"testing"

	"eddy/api"
	"eddy/equal"
	"eddy/pen"
	"eddy/post"
)

// A coordinator is a Post, or the model of one.
type coordinator interface {
	Trigger() (int, api.Errno)
	Hand(id, task int, part api.Part) api.Errno
	Pick() (int, api.Shot)
	Abort() (int, api.Errno)
	Settle(id int, ok bool) api.Errno
	Status(id int) int
	Open() (int, []int)
}

// A call is written as its words: trigger; hand, an id, a task and a part's name; pick; abort; settle, an id and yes or no; status and an id; open.
type call struct {
	What     string
	Id, Task int
	Part     api.Part
	Ok       bool
}

// An answer is what a call answers: of an error, a number, a shot and tasks those that it has.
type answer struct {
	Err    api.Errno
	Number int
	Shot   api.Shot
	Tasks  []int
}

func (c call) of(p coordinator) answer {
	var a answer
	switch c.What {
	case "trigger":
		a.Number, a.Err = p.Trigger()
	case "hand":
		a.Err = p.Hand(c.Id, c.Task, c.Part)
	case "pick":
		a.Number, a.Shot = p.Pick()
	case "abort":
		a.Number, a.Err = p.Abort()
	case "settle":
		a.Err = p.Settle(c.Id, c.Ok)
	case "status":
		a.Number = p.Status(c.Id)
	case "open":
		a.Number, a.Tasks = p.Open()
	default:
		panic("no call: " + c.What)
	}
	return a
}

// part gives the part of a name, in which every list holds something; that of - is empty.
func part(name string) api.Part {
	if name == "-" {
		return api.Part{}
	}
	rec := func(key string) api.Record {
		return api.Record{Key: key, Val: api.Value{Kind: api.List, Items: []api.Value{{Kind: api.Text, Text: key}}}, Loops: []int{len(key), 0}}
	}
	return api.Part{
		State: api.State{Num: int(name[0]), Cells: []api.Cell{{Key: name, Vals: []api.Value{rec(name).Val}}, {Key: name + "2"}}},
		Logs:  [][]api.Record{{rec(name + "3"), rec(name + "4")}, nil, {rec(name + "5")}},
		Pend:  []api.Record{rec(name + "6")},
	}
}

func partTold(p api.Part) string {
	name := "-"
	if len(p.State.Cells) > 0 {
		name = p.State.Cells[0].Key
	}
	if name != "" && equal.Part(p, part(name)) {
		return name
	}
	return fmt.Sprintf("%+v", p)
}

// called reads a call.
func called(s string) call {
	words := strings.Fields(s)
	c := call{What: words[0]}
	if len(words) > 1 {
		c.Id = pen.ReadNumber(words[1])
	}
	switch c.What {
	case "hand":
		c.Task, c.Part = pen.ReadNumber(words[2]), part(words[3])
	case "settle":
		c.Ok = words[2] == "yes"
	}
	return c
}

func (c call) String() string {
	id := c.What + " " + strconv.Itoa(c.Id)
	switch c.What {
	case "hand":
		return id + " " + strconv.Itoa(c.Task) + " " + partTold(c.Part)
	case "settle":
		if c.Ok {
			return id + " yes"
		}
		return id + " no"
	case "status":
		return id
	}
	return c.What
}

func errorTold(e api.Errno) string {
	words := []string{"new", "under", "ids", "other", "task", "twice", "none", "not ready"}
	switch at := int(e) - 140; {
	case e == api.OK:
		return "ok"
	case at >= 0 && at < len(words):
		return words[at]
	}
	return "error " + strconv.Itoa(int(e))
}

// told writes the answer of a call, so much of it as the call has.
func (c call) told(a answer) string {
	number := strconv.Itoa(a.Number)
	switch c.What {
	case "hand", "settle":
		return errorTold(a.Err)
	case "pick":
		return number + shotTold(a.Shot)
	case "status":
		return number
	case "open":
		for _, task := range a.Tasks {
			number += " " + strconv.Itoa(task)
		}
		return number
	}
	if a.Err == api.OK {
		return number
	} else if a.Number != 0 {
		return errorTold(a.Err) + " and " + number
	}
	return errorTold(a.Err)
}

// shotTold writes a shot: its number, its sum and its parts; an empty one is not written.
func shotTold(s api.Shot) string {
	if equal.Shot(s, api.Shot{}) {
		return ""
	}
	words := []string{":", strconv.Itoa(s.Id), strconv.FormatUint(uint64(s.Sum), 10)}
	for _, p := range s.Parts {
		words = append(words, partTold(p))
	}
	return strings.Join(words, " ")
}

func same(a, b answer) bool {
	return a.Err == b.Err && a.Number == b.Number && equal.Shot(a.Shot, b.Shot) && slices.Equal(a.Tasks, b.Tasks)
}

// A kind is what a coordinator is made of.
type kind struct {
	tasks, first int
	sum          uint32
}

func (k kind) String() string { return fmt.Sprintf("New(%d, %d, %d)", k.tasks, k.first, k.sum) }

// kindOf reads a kind: a number of tasks, the first snapshot's number, and a sum.
func kindOf(s string) kind {
	words := strings.Fields(s)
	return kind{pen.ReadNumber(words[0]), pen.ReadNumber(words[1]), uint32(pen.ReadNumber(words[2]))}
}

func (k kind) open(t *testing.T) *post.Post {
	t.Helper()
	p, e := post.New(k.tasks, k.first, k.sum)
	if e != api.OK || p == nil {
		t.Fatalf("P14.1: %v: error %d", k, e)
	}
	return p
}

// plays makes a coordinator and plays lines: a call each, and behind an equals sign what it must answer.
func plays(t *testing.T, promise, of string, lines ...string) {
	t.Helper()
	p := kindOf(of).open(t)
	for k, line := range lines {
		words, want, asked := strings.Cut(line, "=")
		c := called(words)
		if got := c.told(c.of(p)); asked && got != strings.TrimSpace(want) {
			t.Errorf("%s: New(%s): %s: it answers %s", promise, of, strings.Join(lines[:k+1], "; "), got)
		}
	}
}

// TestHelp: the tests read what they write, and the numbers are those of the document.
func TestHelp(t *testing.T) {
	for _, s := range []string{"trigger", "hand 7 1 B", "hand -1 12 -", "pick", "abort", "settle 7 yes", "settle 0 no", "status -5", "open"} {
		if got := called(s).String(); got != s {
			t.Errorf("the call %q is told as %q", s, got)
		}
	}
	shot := api.Shot{Id: 7, Sum: 99, Parts: []api.Part{part("A"), part("-")}}
	for _, c := range []struct {
		call, want string
		answer
	}{
		{"trigger", "7", answer{Number: 7}}, {"trigger", "ids", answer{Err: api.ErrPostIds}}, {"abort", "none and 7", answer{Number: 7, Err: api.ErrPostNone}},
		{"pick", "0", answer{}}, {"pick", "2: 7 99 A -", answer{Number: 2, Shot: shot}}, {"pick", "1: 0 1", answer{Number: 1, Shot: api.Shot{Sum: 1}}},
		{"open", "7 0 2", answer{Number: 7, Tasks: []int{0, 2}}}, {"open", "0", answer{Tasks: []int{}}}, {"status 3", "4", answer{Number: 4}},
		{"hand 1 1 A", "twice", answer{Err: api.ErrPostTwice}}, {"settle 1 no", "error 131", answer{Err: 131}}, {"settle 1 yes", "ok", answer{}},
	} {
		if got := called(c.call).told(c.answer); got != c.want {
			t.Errorf("the answer %+v of %s is told as %q, want %q", c.answer, c.call, got, c.want)
		}
	}
	if k := kindOf("2 7 4294967295"); k != (kind{2, 7, 1<<32 - 1}) {
		t.Errorf("the kind is read as %v", k)
	}
	for k, e := range []api.Errno{api.ErrPostNew, api.ErrPostUnder, api.ErrPostIds, api.ErrPostOther, api.ErrPostTask, api.ErrPostTwice, api.ErrPostNone, api.ErrPostReady} {
		if int(e) != 140+k {
			t.Errorf("error %d has the number %d", 140+k, e)
		}
	}
}
