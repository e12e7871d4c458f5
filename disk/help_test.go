package disk_test

import (
	"bytes"
	"reflect"
	"slices"
	"strconv"
	"strings"
	"testing"

	"eddy/api"
	"eddy/disk"
)

// A machine is a disk, or the model of one.
type machine interface {
	Append(name string, data []byte) api.Errno
	Sync(name string) api.Errno
	Trim(name string, size int) api.Errno
	Remove(name string) api.Errno
	Read(name string) ([]byte, api.Errno)
	List() ([]string, api.Errno)
	Arm(units int)
	Fail(after, calls int)
	Crash()
	Restart(keep []int)
	Spoil(name string, bit int) bool
	Files() []api.File
}

// A call is written as its words: append, a name and bytes; sync, remove or read and a name; trim, a name and a size; spoil, a name and a bit; arm and units; fail, after and calls; restart and what is kept; list, crash, files.
type call struct {
	what, name string
	data       []byte
	nums       []int
}

// An answer is what a call answers: of an error, a bool and lists those that it has.
type answer struct {
	err   api.Errno
	ok    bool
	data  []byte
	names []string
	files []api.File
}

func (c call) of(m machine) answer {
	var a answer
	switch c.what {
	case "append":
		a.err = m.Append(c.name, c.data)
	case "sync":
		a.err = m.Sync(c.name)
	case "trim":
		a.err = m.Trim(c.name, c.nums[0])
	case "remove":
		a.err = m.Remove(c.name)
	case "read":
		a.data, a.err = m.Read(c.name)
	case "list":
		a.names, a.err = m.List()
	case "arm":
		m.Arm(c.nums[0])
	case "fail":
		m.Fail(c.nums[0], c.nums[1])
	case "crash":
		m.Crash()
	case "restart":
		m.Restart(c.nums)
	case "spoil":
		a.ok = m.Spoil(c.name, c.nums[0])
	case "files":
		a.files = m.Files()
	default:
		panic("no call: " + c.what)
	}
	return a
}

func (c call) changing() bool {
	return slices.Contains([]string{"append", "sync", "trim", "remove"}, c.what)
}

func (c call) cost() int { return len(c.data) + 1 }

func (c call) named() bool { return c.changing() || c.what == "read" || c.what == "spoil" }

func (c call) String() string {
	words := []string{c.what}
	if c.named() {
		words = append(words, c.name)
	}
	if len(c.data) > 20 {
		return strings.Join(words, " ") + " and " + strconv.Itoa(len(c.data)) + " bytes"
	}
	for _, b := range c.data {
		words = append(words, strconv.Itoa(int(b)))
	}
	for _, n := range c.nums {
		words = append(words, strconv.Itoa(n))
	}
	return strings.Join(words, " ")
}

// called reads a call.
func called(s string) call {
	words := strings.Fields(s)
	c := call{what: words[0]}
	words = words[1:]
	if c.named() {
		c.name, words = words[0], words[1:]
	}
	nums := numbers(strings.Join(words, " "))
	if c.what != "append" {
		c.nums = nums
		return c
	}
	for _, n := range nums {
		c.data = append(c.data, byte(n))
	}
	return c
}

func numbers(s string) []int {
	var all []int
	for _, word := range strings.Fields(s) {
		n, err := strconv.Atoi(word)
		if err != nil {
			panic(err)
		}
		all = append(all, n)
	}
	return all
}

func bytesOf(s string) []byte {
	var all []byte
	for _, n := range numbers(s) {
		all = append(all, byte(n))
	}
	return all
}

func filled(b byte, size int) []byte { return bytes.Repeat([]byte{b}, size) }

// filesOf reads files: "a 1 2|3, b |" is a file a with three bytes, of which two are sure, and a file b without bytes.
func filesOf(s string) []api.File {
	var all []api.File
	for one := range strings.SplitSeq(s, ",") {
		name, data, _ := strings.Cut(strings.TrimSpace(one), " ")
		if name == "" {
			continue
		}
		sure, unsure, found := strings.Cut(data, "|")
		if !found {
			panic("no files: " + s)
		}
		all = append(all, api.File{Name: name, Data: slices.Concat(bytesOf(sure), bytesOf(unsure)), Synced: len(bytesOf(sure))})
	}
	return all
}

// bytesTold writes bytes; many as their number, the first and the last.
func bytesTold(b []byte) string {
	if len(b) > 40 {
		return strconv.Itoa(len(b)) + " bytes from " + strconv.Itoa(int(b[0])) + " to " + strconv.Itoa(int(b[len(b)-1]))
	}
	var words []string
	for _, one := range b {
		words = append(words, strconv.Itoa(int(one)))
	}
	return strings.Join(words, " ")
}

// filesTold writes files as filesOf reads them.
func filesTold(all []api.File) string {
	var out []string
	for _, f := range all {
		if f.Synced < 0 || f.Synced > len(f.Data) {
			out = append(out, f.Name+" "+bytesTold(f.Data)+" with "+strconv.Itoa(f.Synced)+" sure")
			continue
		}
		out = append(out, f.Name+" "+bytesTold(f.Data[:f.Synced])+"|"+bytesTold(f.Data[f.Synced:]))
	}
	return strings.Join(out, ", ")
}

func errorTold(e api.Errno) string {
	switch e {
	case api.OK:
		return "ok"
	case api.ErrDiskDown:
		return "down"
	case api.ErrDiskIO:
		return "io"
	case api.ErrDiskName:
		return "name"
	case api.ErrDiskNone:
		return "none"
	case api.ErrDiskFull:
		return "full"
	case api.ErrDiskFiles:
		return "files"
	}
	return "error " + strconv.Itoa(int(e))
}

// told writes the answer of a call, so much of it as the call has.
func (c call) told(a answer) string {
	switch c.what {
	case "read":
		return strings.TrimSpace(errorTold(a.err) + " " + bytesTold(a.data))
	case "list":
		return strings.TrimSpace(errorTold(a.err) + " " + strings.Join(a.names, " "))
	case "spoil":
		return strconv.FormatBool(a.ok)
	case "files":
		return filesTold(a.files)
	case "arm", "fail", "crash", "restart":
		return ""
	}
	return errorTold(a.err)
}

func sameFiles(a, b []api.File) bool {
	return slices.EqualFunc(a, b, func(f, g api.File) bool {
		return f.Name == g.Name && bytes.Equal(f.Data, g.Data) && f.Synced == g.Synced
	})
}

func same(a, b answer) bool {
	return a.err == b.err && a.ok == b.ok && bytes.Equal(a.data, b.data) && slices.Equal(a.names, b.names) && sameFiles(a.files, b.files)
}

func opened(t *testing.T, files []api.File) *disk.Disk {
	t.Helper()
	d, e := disk.New(files)
	if e != api.OK || d == nil {
		t.Fatalf("P10.1: New(%s): error %d", filesTold(files), e)
	}
	return d
}

// plays makes a disk of files and plays lines: a call each, and behind an equals sign what it must answer.
func plays(t *testing.T, promise, files string, lines ...string) *disk.Disk {
	t.Helper()
	d := opened(t, filesOf(files))
	goesOn(t, promise, d, lines...)
	return d
}

func goesOn(t *testing.T, promise string, d machine, lines ...string) {
	t.Helper()
	for k, line := range lines {
		words, want, asked := strings.Cut(line, "=")
		c := called(words)
		if got := c.told(c.of(d)); asked && got != strings.TrimSpace(want) {
			t.Errorf("%s: %s: it answers %s", promise, strings.Join(lines[:k+1], "; "), got)
		}
	}
}

// counted gives so many files without bytes, of names with a number in them.
func counted(many int) []api.File {
	all := make([]api.File, many)
	for k := range all {
		all[k].Name = "f-" + strconv.Itoa(k)
	}
	return all
}

// TestHelp: the tests read what they write.
func TestHelp(t *testing.T) {
	for _, s := range []string{"", "a |", "a 1 2|3, b |, c 4|, d |5 6"} {
		if got := filesTold(filesOf(s)); got != s {
			t.Errorf("the files %q are told as %q", s, got)
		}
	}
	if f := filesOf("b 4 5|6"); !reflect.DeepEqual(f, []api.File{{Name: "b", Data: []byte{4, 5, 6}, Synced: 2}}) {
		t.Errorf("the files are read as %v", f)
	}
	for _, s := range []string{"append a 1 2", "append a", "sync a", "trim a -1", "remove a", "read a", "list", "arm 3", "fail 1 -2", "crash", "restart", "restart 1 -1", "spoil a 9", "files"} {
		if got := called(s).String(); got != s {
			t.Errorf("the call %q is told as %q", s, got)
		}
	}
}
