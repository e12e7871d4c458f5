package vault_test

import (
	"encoding/binary"
	"errors"
	"fmt"
	"hash/crc32"
	"slices"
	"strings"
	"testing"

	"eddy/api"
	"eddy/disk"
	"eddy/equal"
	"eddy/pen"
	"eddy/vault"
	"eddy/wire"
)

// A store is a vault and its disk.
type store struct {
	*disk.Disk
	*vault.Vault
}

// begun gives a store over a new disk of these files.
func begun(t *testing.T, files ...api.File) store {
	t.Helper()
	d, e := disk.New(files)
	if e != api.OK {
		t.Fatalf("disk.New of %s: error %d", told(files), e)
	}
	return store{d, vault.Open(d)}
}

// again gives a store over another disk that holds the same; it is up, and has no rigs.
func (s store) again(t *testing.T) store {
	t.Helper()
	return begun(t, s.Files()...)
}

// saved stores shots that must be stored well.
func (s store) saved(t *testing.T, shots ...api.Shot) store {
	t.Helper()
	for _, one := range shots {
		if err := s.Save(one); err != nil {
			t.Fatalf("P12.9: Save of %s over %s: %v", shotTold(one), told(s.Files()), err)
		}
	}
	return s
}

// part reads a part: its state, and behind it its logs and its pending output, if they are told.
func part(texts ...string) api.Part {
	p := api.Part{State: pen.ReadState(texts[0])}
	if len(texts) > 1 {
		p.Logs = pen.ReadLists(texts[1])
	}
	if len(texts) > 2 {
		p.Pend = pen.ReadRecords(texts[2])
	}
	return p
}

func shot(id int, parts ...api.Part) api.Shot { return api.Shot{Id: id, Sum: 7, Parts: parts} }

// wide gives a state of so many cells, whose last one holds n.
func wide(cells int, n int64) api.State {
	var s api.State
	for k := range cells {
		s.Cells = append(s.Cells, api.Cell{Key: fmt.Sprintf("k%02d", k), Vals: []api.Value{num(int64(k)), num(1)}})
	}
	s.Cells[cells-1].Vals[0] = num(n)
	return s
}

// wideShot gives a shot of one part, of which a difference from another one is short.
func wideShot(id int) api.Shot { return shot(id, api.Part{State: wide(20, int64(1000+id))}) }

func num(n int64) api.Value { return api.Value{Kind: api.Int, Int: n} }

func text(s string) api.Value { return api.Value{Kind: api.Text, Text: s} }

// frameOf makes a frame, as P1.3 tells it, by the library's own checksum.
func frameOf(body []byte) []byte {
	b := binary.LittleEndian.AppendUint16(nil, uint16(len(body)))
	b = binary.LittleEndian.AppendUint16(b, 65535-uint16(len(body)))
	return binary.LittleEndian.AppendUint32(append(b, body...), crc32.ChecksumIEEE(body))
}

func segmentBody(s api.Segment) []byte {
	b, e := wire.PutSegment(s)
	if e != api.OK {
		panic(fmt.Sprint("no segment: error ", int(e), " of ", s))
	}
	return b
}

func manifestBody(m api.Manifest) []byte {
	b, e := wire.PutManifest(m)
	if e != api.OK {
		panic(fmt.Sprint("no manifest: error ", int(e), " of ", m))
	}
	return b
}

// sureFile gives a file all of whose bytes are sure.
func sureFile(name string, data []byte) api.File {
	return api.File{Name: name, Data: data, Synced: len(data)}
}

// handmade gives the files of a shot whose segments are full, as P12.2 tells them.
func handmade(s api.Shot) []api.File {
	var files []api.File
	m := api.Manifest{Id: s.Id, Sum: s.Sum}
	for task, p := range s.Parts {
		body := segmentBody(api.Segment{Id: s.Id, Task: task, State: p.State, Logs: p.Logs, Pend: p.Pend})
		files = append(files, sureFile(seg(s.Id, task), frameOf(body)))
		m.Rows = append(m.Rows, api.Row{Size: len(body) + 8, Check: crc32.ChecksumIEEE(body)})
	}
	return append(files, sureFile(man(s.Id), frameOf(manifestBody(m))))
}

func man(id int) string { return fmt.Sprintf("man-%04d", id) }

func seg(id, task int) string { return fmt.Sprintf("seg-%04d-%02d", id, task) }

// segmentAt reads a segment's file; one that can't be read ends the test.
func (s store) segmentAt(t *testing.T, name string) api.Segment {
	t.Helper()
	b, e := s.Read(name)
	body, whole := unframed(b)
	if e != api.OK || !whole {
		t.Fatalf("P12.2: %s is no frame, or can't be read: error %d, %x", name, e, b)
	}
	found, e := wire.GetSegment(body)
	if e != api.OK {
		t.Fatalf("P12.2: %s holds no segment: error %d, %x", name, e, b)
	}
	return found
}

// names gives the names of all files, with blanks between them.
func (s store) names() string {
	var all []string
	for _, f := range s.Files() {
		all = append(all, f.Name)
	}
	return strings.Join(all, " ")
}

// told writes files: names, numbers of bytes, and how many of them are sure.
func told(files []api.File) string {
	var all []string
	for _, f := range files {
		all = append(all, fmt.Sprintf("%s %d/%d", f.Name, f.Synced, len(f.Data)))
	}
	return "{" + strings.Join(all, ", ") + "}"
}

func shotTold(s api.Shot) string {
	whole := fmt.Sprintf("%+v", s)
	if len(whole) > 400 {
		return whole[:400] + " .."
	}
	return whole
}

func sameFiles(a, b []api.File) bool {
	return slices.EqualFunc(a, b, func(f, g api.File) bool {
		return f.Name == g.Name && string(f.Data) == string(g.Data) && f.Synced == g.Synced
	})
}

// at gives what an error must tell.
func at(id int, name string, why api.Errno) api.Lost { return api.Lost{Id: id, Name: name, Err: why} }

// tells tells whether an error is just this one: a Lost itself, whose reason is an Errno itself, found by errors.As and errors.Is.
func tells(err error, want api.Lost) bool {
	l, is := err.(*api.Lost)
	var found *api.Lost
	var why api.Errno
	return is && errors.As(err, &found) && found == l && errors.As(err, &why) && error(why) == want.Err &&
		*l == want && errors.Is(err, want.Err) && !errors.Is(err, api.OK) && errors.Is(err, api.ErrDiskDown) == (why == api.ErrDiskDown)
}

// refused fails the test where an error is another one.
func refused(t *testing.T, promise, what string, err error, want api.Lost) {
	t.Helper()
	if !tells(err, want) {
		t.Errorf("%s: %s answers %v, want %v", promise, what, err, &want)
	}
}

// loads fails the test where a shot isn't loaded as it is wanted.
func (s store) loads(t *testing.T, promise string, want api.Shot) {
	t.Helper()
	if got, err := s.Load(want.Id); err != nil || !equal.Shot(got, want) {
		t.Errorf("%s: Load(%d) over %s answers %s, %v, want %s", promise, want.Id, told(s.Files()), shotTold(got), err, shotTold(want))
	}
}

// lacks fails the test where a shot is loaded, or isn't because of another reason.
func (s store) lacks(t *testing.T, promise string, want api.Lost) {
	t.Helper()
	got, err := s.Load(want.Id)
	refused(t, promise, fmt.Sprintf("Load(%d) over %s", want.Id, told(s.Files())), err, want)
	if !equal.Shot(got, api.Shot{}) {
		t.Errorf("%s: Load(%d) answers a shot beside its error: %s", promise, want.Id, shotTold(got))
	}
}

// has fails the test where the complete shots or the next number are other ones.
func (s store) has(t *testing.T, promise string, next int, ids ...int) {
	t.Helper()
	if got := s.Ids(); !slices.Equal(got, ids) {
		t.Errorf("%s: Ids over %s answers %v, want %v", promise, told(s.Files()), got, ids)
	}
	if got := s.Next(); got != next {
		t.Errorf("%s: Next over %s answers %d, want %d", promise, told(s.Files()), got, next)
	}
}

// lies fails the test where other files lie on the disk.
func (s store) lies(t *testing.T, promise, names string) {
	t.Helper()
	if got := s.names(); got != names {
		t.Errorf("%s: the files are %s, want %s", promise, got, names)
	}
}

// TestHelp: the tests' own bytes, and the numbers of the errors.
func TestHelp(t *testing.T) {
	if got := fmt.Sprintf("%x", frameOf([]byte("123456789"))); got != "0900f6ff31323334353637383926"+"39f4cb" {
		t.Errorf("the frame of nine digits is %s", got)
	}
	if got := fmt.Sprintf("%x", frameOf(nil)); got != "0000ffff00000000" {
		t.Errorf("the frame of no bytes is %s", got)
	}
	for number, e := range map[int]api.Errno{120: api.ErrVaultId, 121: api.ErrVaultPart, 122: api.ErrVaultGone, 123: api.ErrVaultTorn, 124: api.ErrVaultForm, 125: api.ErrVaultChain} {
		if int(e) != number {
			t.Errorf("error %d has the number %d", number, int(e))
		}
	}
	right := at(3, "man-0003", api.ErrVaultGone)
	if !tells(&right, right) || tells(nil, right) || tells(api.ErrVaultGone, right) || tells(&api.Fault{Err: &right}, right) ||
		tells(&api.Lost{Id: 3, Name: "man-0003", Err: &api.Fault{Err: api.ErrVaultGone}}, right) {
		t.Error("an error is taken for another one")
	}
	for _, other := range []api.Lost{at(4, "man-0003", api.ErrVaultGone), at(3, "", api.ErrVaultGone), at(3, "man-0003", api.ErrVaultTorn)} {
		if tells(&other, right) {
			t.Errorf("%v is taken for %v", &other, &right)
		}
	}
}
