package outlet_test

import (
	"fmt"
	"strconv"
	"strings"
	"testing"

	"eddy/api"
	"eddy/disk"
	"eddy/equal"
	"eddy/outlet"
	"eddy/pen"
)

// A log is an Outlet, or the model of one.
type log interface {
	Len() int
	Records() []api.Record
	Commit(from int, l []api.Record) error
}

// A system is a disk and what was opened over it last at each place; at a place where that was refused, or not tried, there is nothing.
type system struct {
	*disk.Disk
	open func(d *disk.Disk, sink int) (log, error)
	logs map[int]log
}

func openOutlet(d *disk.Disk, sink int) (log, error) {
	o, err := outlet.Open(d, sink)
	if o == nil {
		return nil, err
	}
	return o, err
}

func openModel(d *disk.Disk, sink int) (log, error) {
	m, err := modelOpen(d, sink)
	if m == nil {
		return nil, err
	}
	return m, err
}

// systems gives a system of outlets and one of models over disks that hold the same.
func systems(t testing.TB, files []api.File) (system, system) {
	t.Helper()
	return system{newDisk(t, files), openOutlet, map[int]log{}}, system{newDisk(t, files), openModel, map[int]log{}}
}

// A call is written as its words. Of an outlet: open and a sink, with a place if that is another number; commit, a place, a number and letters; len and records with a place.
// Of the disk: arm, fail, crash, restart with their numbers; lay, trim, remove and spoil, a file's name and what they need: these are by someone else. files asks what lies there, and probe makes one changing call.
type call struct {
	What     string
	At, Sink int
	From     int
	Recs     []api.Record
	Name     string
	Data     []byte
	Nums     []int
}

// An answer is what a call answers: so much of it as the call has.
type answer struct {
	Err    error
	Open   bool
	Number int
	Recs   []api.Record
	Files  []api.File
}

func (c call) of(s system) answer {
	switch c.What {
	case "open":
		l, err := s.open(s.Disk, c.Sink)
		delete(s.logs, c.At)
		if l != nil {
			s.logs[c.At] = l
		}
		return answer{Err: err, Open: l != nil}
	case "commit", "len", "records":
		l, there := s.logs[c.At]
		if !there {
			return answer{}
		}
		return c.ofLog(l)
	}
	return c.ofDisk(s.Disk)
}

func (c call) ofLog(l log) answer {
	switch c.What {
	case "commit":
		return answer{Err: l.Commit(c.From, c.Recs)}
	case "len":
		return answer{Number: l.Len()}
	}
	return answer{Recs: l.Records()}
}

func (c call) ofDisk(d *disk.Disk) answer {
	e := api.OK
	switch c.What {
	case "arm":
		d.Arm(c.Nums[0])
	case "fail":
		d.Fail(c.Nums[0], c.Nums[1])
	case "crash":
		d.Crash()
	case "restart":
		d.Restart(c.Nums)
	case "lay":
		e = d.Append(c.Name, c.Data)
	case "trim":
		e = d.Trim(c.Name, c.Nums[0])
	case "remove":
		e = d.Remove(c.Name)
	case "spoil":
		d.Spoil(c.Name, c.Nums[0])
	case "probe":
		e = d.Sync("probe")
	case "files":
		return answer{Files: d.Files()}
	default:
		panic("no call: " + c.What)
	}
	if e != api.OK {
		return answer{Err: &api.Lost{Err: e}}
	}
	return answer{}
}

// called reads a call.
func called(s string) call {
	words := strings.Fields(s)
	c := call{What: words[0]}
	words = words[1:]
	switch c.What {
	case "open":
		c.Sink = pen.ReadNumber(words[0])
		c.At = pen.ReadNumber(words[len(words)-1])
	case "commit":
		c.At, c.From = pen.ReadNumber(words[0]), pen.ReadNumber(words[1])
		if len(words) > 2 {
			c.Recs = recs(words[2])
		}
	case "len", "records":
		c.At = pen.ReadNumber(words[0])
	case "lay":
		c.Name, c.Data = words[0], logBytes(words[1])
	case "trim", "remove", "spoil":
		c.Name, words = words[0], words[1:]
		fallthrough
	default:
		for _, word := range words {
			c.Nums = append(c.Nums, pen.ReadNumber(word))
		}
	}
	return c
}

func (c call) String() string {
	words := []string{c.What}
	switch c.What {
	case "open":
		words = append(words, strconv.Itoa(c.Sink))
		if c.At != c.Sink {
			words = append(words, strconv.Itoa(c.At))
		}
	case "commit":
		words = append(words, strconv.Itoa(c.At), strconv.Itoa(c.From), recsTold(c.Recs))
	case "len", "records":
		words = append(words, strconv.Itoa(c.At))
	case "lay":
		words = append(words, c.Name, logTold(c.Data))
	case "trim", "remove", "spoil":
		words = append(words, c.Name)
	}
	for _, n := range c.Nums {
		words = append(words, strconv.Itoa(n))
	}
	return strings.TrimSpace(strings.Join(words, " "))
}

// told writes the answer of a call.
func (c call) told(a answer) string {
	switch c.What {
	case "open":
		if a.Open != (a.Err == nil) {
			return fmt.Sprint(errorTold(a.Err), ", and an outlet: ", a.Open)
		}
	case "len":
		return strconv.Itoa(a.Number)
	case "records":
		return recsTold(a.Recs)
	case "files":
		return filesTold(a.Files)
	}
	return errorTold(a.Err)
}

func same(a, b answer) bool {
	return errorTold(a.Err) == errorTold(b.Err) && a.Open == b.Open && a.Number == b.Number && equal.Records(a.Recs, b.Recs) && sameFiles(a.Files, b.Files)
}

// plays makes a disk of files and plays lines: a call each, and behind an equals sign what it must answer.
func plays(t *testing.T, promise, files string, lines ...string) {
	t.Helper()
	s, _ := systems(t, filesOf(files))
	for k, line := range lines {
		words, want, asked := strings.Cut(line, "=")
		c := called(words)
		if got := c.told(c.of(s)); asked && got != strings.TrimSpace(want) {
			t.Errorf("%s: files {%s}: %s: it answers %s", promise, files, strings.Join(lines[:k+1], "; "), got)
		}
	}
}

// TestHelpWithCalls: the tests read what they write.
func TestHelpWithCalls(t *testing.T) {
	for _, s := range []string{"open 3", "open -1", "open 3 7", "commit 3 0 abK", "commit 3 -1", "len 3", "records 3", "arm 5", "fail 0 1", "crash", "restart", "restart 3 4",
		"lay out-03 ab+2", "trim out-03 9", "remove out-03", "spoil out-03 8", "files", "probe"} {
		if got := called(s).String(); got != s {
			t.Errorf("the call %q is told as %q", s, got)
		}
	}
	for _, c := range []struct {
		call, want string
		answer
	}{
		{"open 3", "ok", answer{Open: true}}, {"open 12", "no sink", answer{Err: &api.Lost{Err: api.ErrOutSink}}},
		{"open 3", "ok, and an outlet: false", answer{}}, {"open 12", "no sink, and an outlet: true", answer{Open: true, Err: &api.Lost{Err: api.ErrOutSink}}},
		{"len 3", "5", answer{Number: 5}}, {"records 3", "ab", answer{Recs: recs("ab")}}, {"files", "out-03: a", answer{Files: filesOf("out-03: a")}},
		{"probe", "io", answer{Err: &api.Lost{Err: api.ErrDiskIO}}}, {"commit 0 0", "ok", answer{}},
	} {
		if got := called(c.call).told(c.answer); got != c.want {
			t.Errorf("the answer %+v of %s is told as %q, want %q", c.answer, c.call, got, c.want)
		}
	}
}
