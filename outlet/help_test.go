package outlet_test

import (
	"encoding/binary"
	"errors"
	"fmt"
	"hash/crc32"
	"slices"
	"strconv"
	"strings"
	"testing"

	"eddy/api"
	"eddy/disk"
	"eddy/equal"
	"eddy/outlet"
	"eddy/pen"
	"eddy/wire"
)

// rec gives the record of a letter: of a small one a valid one, in which every list holds something, and - is the empty one; of a great one one that isn't valid.
func rec(letter byte) api.Record {
	key := string(rune(letter))
	valid := api.Record{Key: key, Val: api.Value{Kind: api.List, Items: []api.Value{{Kind: api.Text, Text: strings.Repeat(key, int(letter)%5)}}}, Loops: []int{int(letter) % 10, 0}}
	switch letter {
	case '-':
		return api.Record{}
	case 'K':
		valid.Key = "thirteenbytes"
	case 'Z':
		valid.Val.Kind = 4
	case 'T':
		valid.Val.Items[0].Text = strings.Repeat("t", api.MaxText+1)
	case 'I':
		valid.Val.Items = make([]api.Value, api.MaxItems+1)
	case 'D':
		valid.Val = pen.Deep(api.MaxDepth + 1)
	case 'L':
		valid.Loops = []int{api.MaxHops + 1}
	}
	return valid
}

// wrongs tells the errors of the records of great letters.
var wrongs = map[byte]api.Errno{'K': api.ErrValKey, 'Z': api.ErrValKind, 'T': api.ErrValText, 'I': api.ErrValItems, 'D': api.ErrValDepth, 'L': api.ErrValLoops}

func recs(letters string) []api.Record {
	var all []api.Record
	for k := range len(letters) {
		all = append(all, rec(letters[k]))
	}
	return all
}

const letters = "abcdefghijklmnopqrstuvwxyz-KZTIDL"

// recsTold writes records: those of letters by these.
func recsTold(l []api.Record) string {
	var all strings.Builder
	for _, r := range l {
		at := slices.IndexFunc([]byte(letters), func(letter byte) bool { return equal.Record(r, rec(letter)) })
		if at < 0 {
			fmt.Fprintf(&all, "%+v", r)
			continue
		}
		all.WriteByte(letters[at])
	}
	return all.String()
}

// frameOf makes a frame, as P1.3 tells it, by the library's own checksum.
func frameOf(body []byte) []byte {
	b := binary.LittleEndian.AppendUint16(nil, uint16(len(body)))
	b = binary.LittleEndian.AppendUint16(b, 65535-uint16(len(body)))
	return binary.LittleEndian.AppendUint32(append(b, body...), crc32.ChecksumIEEE(body))
}

// rowOf writes a row, as P4.12 tells it, by the library's own numbers.
func rowOf(at int, r api.Record) []byte {
	b, e := wire.PutRecord(r)
	if e != api.OK {
		panic(fmt.Sprint("no record: error ", int(e), " of ", r))
	}
	return slices.Concat(binary.AppendUvarint([]byte{79}, uint64(at)), b)
}

// logOf writes a log of records, the first of which has the number from.
func logOf(from int, l []api.Record) []byte {
	var all []byte
	for k, r := range l {
		all = append(all, frameOf(rowOf(from+k, r))...)
	}
	return all
}

// logBytes reads a log: letters, and behind a plus sign how many bytes of one more frame.
func logBytes(s string) []byte {
	letters, torn, _ := strings.Cut(s, "+")
	b := logOf(0, recs(letters))
	if torn != "" {
		b = append(b, logOf(len(letters), recs("z"))[:pen.ReadNumber(torn)]...)
	}
	return b
}

// logTold writes a log's bytes: its records, and behind a plus sign how many bytes stand behind them.
func logTold(b []byte) string {
	l, size := modelScan(b)
	if size < len(b) {
		return recsTold(l) + "+" + strconv.Itoa(len(b)-size)
	}
	return recsTold(l)
}

// filesOf reads files, with a comma between two: `out-03: abc+3 of ab+1` has a log, of which only as many bytes are sure as stand behind the word of.
func filesOf(s string) []api.File {
	var all []api.File
	for _, one := range strings.Split(s, ",") {
		name, rest, _ := strings.Cut(strings.TrimSpace(one), ":")
		if name == "" {
			continue
		}
		whole, sure, some := strings.Cut(strings.TrimSpace(rest), "of")
		f := api.File{Name: name, Data: logBytes(strings.TrimSpace(whole))}
		f.Synced = len(f.Data)
		if some {
			f.Synced = len(logBytes(strings.TrimSpace(sure)))
		}
		all = append(all, f)
	}
	return all
}

func filesTold(files []api.File) string {
	var all []string
	for _, f := range files {
		one := f.Name + ": " + logTold(f.Data)
		if f.Synced < len(f.Data) {
			one += " of " + logTold(f.Data[:f.Synced])
		}
		all = append(all, strings.TrimSpace(one))
	}
	return strings.Join(all, ", ")
}

func sameFiles(a, b []api.File) bool {
	return slices.EqualFunc(a, b, func(f, g api.File) bool {
		return f.Name == g.Name && string(f.Data) == string(g.Data) && f.Synced == g.Synced
	})
}

func newDisk(t testing.TB, files []api.File) *disk.Disk {
	t.Helper()
	d, e := disk.New(files)
	if e != api.OK {
		t.Fatalf("disk.New of %s: error %d", filesTold(files), e)
	}
	return d
}

// isDown tells whether a machine is down.
func isDown(d *disk.Disk) bool {
	_, e := d.List()
	return e != api.OK
}

func nameOf(sink int) string { return fmt.Sprintf("out-%02d", sink) }

// sinkOf gives the sink that a file belongs to; -1: it is another's.
func sinkOf(name string) int {
	number, ours := strings.CutPrefix(name, "out-")
	if sink, err := strconv.Atoi(number); ours && err == nil && nameOf(sink) == name {
		return sink
	}
	return -1
}

// found gives the file of a sink among others, and whether there is one.
func found(files []api.File, sink int) (api.File, bool) {
	name := nameOf(sink)
	for _, f := range files {
		if f.Name == name {
			return f, true
		}
	}
	return api.File{}, false
}

// fileOf gives a disk's file of a sink; an empty one, if there is none.
func fileOf(d *disk.Disk, sink int) api.File {
	f, _ := found(d.Files(), sink)
	return f
}

// opened gives an outlet that must be opened well.
func opened(t testing.TB, d *disk.Disk, sink int) *outlet.Outlet {
	t.Helper()
	o, err := outlet.Open(d, sink)
	if o == nil || err != nil {
		t.Fatalf("P15.2: Open(%d) over %s answers %v", sink, filesTold(d.Files()), err)
	}
	return o
}

// errorTold writes an error: ok, or a word and the file's name. One that isn't a Lost itself with the Id 0 and an Errno itself, found by errors.As and errors.Is, is strange.
func errorTold(err error) string {
	if err == nil {
		return "ok"
	}
	l, is := err.(*api.Lost)
	if !is || l == nil {
		return fmt.Sprintf("strange: %#v", err)
	}
	e, is := l.Err.(api.Errno)
	var found *api.Lost
	var why api.Errno
	if !is || e == api.OK || l.Id != 0 || !errors.As(err, &found) || found != l || !errors.As(err, &why) || why != e || !errors.Is(err, e) || errors.Is(err, e+1) {
		return fmt.Sprintf("strange: %#v", l)
	}
	return strings.TrimSpace(wordOf(e) + " " + l.Name)
}

func wordOf(e api.Errno) string {
	switch e {
	case 150:
		return "gap"
	case 151:
		return "clash"
	case 152:
		return "no sink"
	case 100:
		return "down"
	case 101:
		return "io"
	case 104:
		return "full"
	}
	return "error " + strconv.Itoa(int(e))
}

// TestHelp: the tests read what they write, and the numbers are those of the document.
func TestHelp(t *testing.T) {
	if got := fmt.Sprintf("%x", frameOf([]byte("123456789"))); got != "0900f6ff31323334353637383926"+"39f4cb" {
		t.Errorf("the frame of nine digits is %s", got)
	}
	if got := fmt.Sprintf("%x", rowOf(300, pen.ReadRecord("a=5@0@2"))); got != "4fac02"+"0161010a020002" {
		t.Errorf("row 300 is %s", got)
	}
	for _, s := range []string{"", "a", "abc", "ab-", "abc+3", "+1", "abca+9"} {
		if got := logTold(logBytes(s)); got != s {
			t.Errorf("the log %q is told as %q", s, got)
		}
	}
	for _, s := range []string{"", "out-03:", "out-03: abc", "out-00: a of +2, out-11: abc+3 of ab, x: +4 of"} {
		if got := filesTold(filesOf(s)); got != s {
			t.Errorf("the files %q are told as %q", s, got)
		}
	}
	for letter, e := range wrongs {
		if _, got := wire.PutRow(api.OutRow{Rec: rec(letter)}); got != e || recsTold([]api.Record{rec(letter)}) == "" {
			t.Errorf("the record of %c has error %d, want %d", letter, got, e)
		}
	}
	if sinkOf("out-07") != 7 || sinkOf("out-11") != 11 || sinkOf("out-7") != -1 || sinkOf("other") != -1 || sinkOf("man-0007") != -1 {
		t.Error("the sinks of files are other ones")
	}
	for k, e := range []api.Errno{api.ErrOutGap, api.ErrOutClash, api.ErrOutSink} {
		if int(e) != 150+k {
			t.Errorf("error %d has the number %d", 150+k, e)
		}
	}
	for _, c := range []struct {
		err  error
		want string
	}{
		{nil, "ok"}, {&api.Lost{Err: api.ErrOutSink}, "no sink"}, {&api.Lost{Name: "out-03", Err: api.ErrOutGap}, "gap out-03"},
		{&api.Lost{Name: "a", Err: api.ErrValKey}, "error 24 a"}, {&api.Lost{Err: api.ErrDiskDown}, "down"},
	} {
		if got := errorTold(c.err); got != c.want {
			t.Errorf("%v is told as %q, want %q", c.err, got, c.want)
		}
	}
	for _, err := range []error{api.ErrOutGap, &api.Lost{Id: 1, Err: api.ErrOutGap}, &api.Lost{Err: api.OK}, &api.Lost{}, (*api.Lost)(nil),
		&api.Lost{Err: &api.Lost{Err: api.ErrOutGap}}, &api.Fault{Err: &api.Lost{Err: api.ErrOutGap}}, &api.Lost{Err: errors.New("gap")}} {
		if got := errorTold(err); !strings.HasPrefix(got, "strange") {
			t.Errorf("%#v is told as %q", err, got)
		}
	}
}
