package disk_test

import (
	"cmp"
	"fmt"
	"runtime"
	"slices"
	"testing"
	"unsafe"

	"eddy/api"
	"eddy/disk"
	"eddy/pen"
)

// lent gives a text in bytes of its own, which can be written over afterwards.
func lent(s string) string {
	b := []byte(s)
	return unsafe.String(unsafe.SliceData(b), len(b))
}

func roomyFile(f api.File) api.File {
	return api.File{Name: lent(f.Name), Data: pen.Roomy(f.Data, 77, pen.Plain), Synced: f.Synced}
}

func roomyFiles(l []api.File) []api.File { return pen.Roomy(l, api.File{Name: "spare"}, roomyFile) }

func (c call) roomy() call {
	return call{what: c.what, name: lent(c.name), data: pen.Roomy(c.data, 77, pen.Plain), nums: pen.Roomy(c.nums, 77, pen.Plain)}
}

// A memory is all that hangs on something: its lists with their spare room, and its texts.
type memory struct {
	bytes [][]byte
	nums  [][]int
	names [][]string
	files [][]api.File
	texts []string
}

func (m *memory) addFiles(l []api.File) {
	m.files = append(m.files, l[:cap(l)])
	for _, f := range l {
		m.bytes = append(m.bytes, f.Data[:cap(f.Data)])
		m.texts = append(m.texts, f.Name)
	}
}

// handed is what hangs on the arguments of a call.
func (c call) handed() *memory {
	return &memory{bytes: [][]byte{c.data[:cap(c.data)]}, nums: [][]int{c.nums[:cap(c.nums)]}, texts: []string{c.name}}
}

// memory is what hangs on an answer.
func (a answer) memory() *memory {
	m := &memory{bytes: [][]byte{a.data[:cap(a.data)]}, names: [][]string{a.names[:cap(a.names)]}}
	m.addFiles(a.files)
	return m
}

func (m *memory) whole() string { return fmt.Sprintf("%#v", *m) }

// scribble writes over all lists and their spare room.
func (m *memory) scribble() {
	pen.Fill(m.bytes, 99)
	pen.Fill(m.nums, 4711)
	pen.Fill(m.names, "scribbled")
	pen.Fill(m.files, api.File{Name: "scribbled", Synced: 4711})
}

// scribbleTexts writes over the bytes of the texts, which must have been lent.
func (m *memory) scribbleTexts() {
	for _, s := range m.texts {
		pen.Fill([][]byte{unsafe.Slice(unsafe.StringData(s), len(s))}, '#')
	}
}

// A strip is where a list lies, its spare room in.
type strip struct {
	from, to uintptr
	of       string
}

func (m *memory) strips(of string) []strip {
	return slices.Concat(stripsOf(m.bytes, of), stripsOf(m.nums, of), stripsOf(m.names, of), stripsOf(m.files, of))
}

func stripsOf[T any](lists [][]T, of string) []strip {
	var all []strip
	for _, l := range lists {
		if len(l) > 0 {
			from := uintptr(unsafe.Pointer(&l[0]))
			all = append(all, strip{from, from + uintptr(len(l))*unsafe.Sizeof(l[0]), of})
		}
	}
	return all
}

// apart fails the test if two lists share memory.
func apart(t *testing.T, all []strip) {
	t.Helper()
	slices.SortFunc(all, func(a, b strip) int { return cmp.Compare(a.from, b.from) })
	for k := 1; k < len(all); k++ {
		if all[k].from < all[k-1].to {
			t.Errorf("P10, Rules for all calls: a list of %s shares memory with one of %s", all[k].of, all[k-1].of)
		}
	}
}

// A tracker plays calls whose memory is written over behind them, and notes where all of it lies.
type tracker struct {
	strips []strip
	alive  []*memory
}

func (r *tracker) note(m *memory, of string) {
	r.strips = append(r.strips, m.strips(of)...)
	r.alive = append(r.alive, m)
}

// opened makes a disk of files that are written over right behind that.
func (r *tracker) opened(t *testing.T, files []api.File) *disk.Disk {
	t.Helper()
	given := roomyFiles(files)
	m := &memory{}
	m.addFiles(given)
	r.note(m, "the files that New was given")
	before := m.whole()
	d, e := disk.New(given)
	if e != api.OK || m.whole() != before {
		t.Fatalf("P10, Rules for all calls: New(%s) answers error %d, or changes what it is given, or the spare room behind it", filesTold(files), e)
	}
	m.scribbleTexts()
	m.scribble()
	return d
}

// does lets a disk and the model make a call, and writes over all that was handed in and answered.
func (r *tracker) does(t *testing.T, d *disk.Disk, m *model, c call) {
	t.Helper()
	given := c.roomy()
	in := given.handed()
	before := in.whole()
	got, want := given.of(d), c.of(m)
	if !same(got, want) {
		t.Fatalf("P10, Rules for all calls: %v answers %s, want %s: what was handed in or answered before has been written over", c, c.told(got), c.told(want))
	}
	if in.whole() != before {
		t.Fatalf("P10, Rules for all calls: %v changes what it is handed, or the spare room behind it", c)
	}
	out := got.memory()
	r.note(in, "an argument of "+c.String())
	r.note(out, "an answer of "+c.String())
	in.scribbleTexts()
	in.scribble()
	out.scribble()
}

// TestScriptsWhoseMemoryIsWrittenOver: the disk must not be touched by that, and must not have touched what was handed in.
func TestScriptsWhoseMemoryIsWrittenOver(t *testing.T) {
	for seed := range 500 {
		w := writer{pen.Seeded(seed)}
		files := w.files()
		var r tracker
		d, m := r.opened(t, files), modelOf(files)
		for range 40 {
			c := w.call()
			if len(c.data) > 100 {
				continue
			}
			r.does(t, d, m, c)
			r.does(t, d, m, call{what: "files"})
			r.does(t, d, m, call{what: "list"})
			r.does(t, d, m, call{what: "read", name: c.name})
		}
		apart(t, r.strips)
		// Memory that is free again may be handed out anew.
		runtime.KeepAlive(r.alive)
		if t.Failed() {
			return
		}
	}
}

// TestListsThatAreHandedInTwice: files that share their memory are apart on the disk, and apart from what is appended.
func TestListsThatAreHandedInTwice(t *testing.T) {
	data := []byte{1, 2, 3, 4, 5, 6}
	d := opened(t, []api.File{{Name: "a", Data: data[:3]}, {Name: "b", Data: data[:3], Synced: 2}, {Name: "c", Data: data[2:], Synced: 1}, {Name: "d", Data: data[:0]}})
	lines := []string{"spoil a 0 = true", "append a 9 = ok", "append d 8 = ok", "files = a |0 2 3 9, b 1 2|3, c 3|4 5 6, d |8"}
	goesOn(t, "P10, Rules for all calls", d, lines...)
	d.Append("e", data)
	d.Append("f", data[1:3])
	d.Append("e", data[:2])
	goesOn(t, "P10, Rules for all calls", d, "spoil e 0 = true", "append f 7 = ok", "spoil f 0 = true", "files = a |0 2 3 9, b 1 2|3, c 3|4 5 6, d |8, e |0 2 3 4 5 6 1 2, f |3 3 7")
	if !slices.Equal(data, []byte{1, 2, 3, 4, 5, 6}) {
		t.Errorf("P10, Rules for all calls: what was handed in is changed to %v", data)
	}
}

// TestAnswersStayAsTheyWere: whatever is done to the disk afterwards, and whatever is appended to other answers.
func TestAnswersStayAsTheyWere(t *testing.T) {
	for seed := range 300 {
		w := writer{pen.Seeded(seed)}
		files := w.files()
		d := opened(t, files)
		type kept struct {
			got  answer
			want string
		}
		var all []kept
		for range 30 {
			w.call().of(d)
			for _, c := range []call{{what: "files"}, {what: "list"}, {what: "read", name: w.rightName()}} {
				a := c.of(d)
				_, _ = append(a.names, "behind"), append(a.data, 4, 7, 1, 1)
				for k := range a.files {
					_ = append(a.files[k].Data, 4, 7, 1, 1)
				}
				all = append(all, kept{a, a.memory().whole()})
			}
		}
		for _, k := range all {
			if got := k.got.memory().whole(); got != k.want {
				t.Fatalf("P10, Rules for all calls: seed %d: an answer was %s and is %s", seed, k.want, got)
			}
		}
	}
}

// TestNilAndEmptyAreTheSame: as arguments of each call that takes a list.
func TestNilAndEmptyAreTheSame(t *testing.T) {
	for _, data := range [][]byte{nil, {}, make([]byte, 0, 9)} {
		for _, keep := range [][]int{nil, {}, make([]int, 0, 9)} {
			d := opened(t, []api.File{{Name: "a", Data: data}})
			goesOn(t, "P10, Rules for all calls", d, "files = a |", "append b 1 = ok")
			if e := d.Append("a", data); e != api.OK {
				t.Errorf("P10, Rules for all calls: Append of no data: error %d", e)
			}
			d.Restart(keep)
			goesOn(t, "P10, Rules for all calls", d, "files = a |, b |", "read a = ok")
		}
	}
}
