package vault_test

import (
	"fmt"
	"hash/crc32"
	"math"
	"slices"
	"strings"
	"testing"

	"eddy/api"
	"eddy/pen"
)

// TestTheBytesOfAShot: the chapter's first example, byte by byte.
func TestTheBytesOfAShot(t *testing.T) {
	s := begun(t)
	s.has(t, "P12.6", 1)
	s.lacks(t, "P12.4", at(1, "man-0001", api.ErrVaultGone))
	s.lacks(t, "P12.4", at(0, "", api.ErrVaultId))
	s.saved(t, api.Shot{Id: 1, Sum: 7, Parts: []api.Part{{State: api.State{Num: 5}}}})
	body := "\x53\x01\x00\x00\x05\x00\x00\x00"
	sum := crc32.ChecksumIEEE([]byte(body))
	four := string([]byte{byte(sum), byte(sum >> 8), byte(sum >> 16), byte(sum >> 24)})
	want := []api.File{
		sureFile("man-0001", frameOf([]byte("\x4d\x01\x07\x00\x00\x00\x01\x10"+four))),
		sureFile("seg-0001-00", []byte("\x08\x00\xf7\xff"+body+four)),
	}
	if got := s.Files(); !sameFiles(got, want) {
		t.Errorf("P12.2: the files are %v, want %v", got, want)
	}
	s.has(t, "P12.6", 2, 1)
	s.loads(t, "P12.11", shot(1, part("5")))
	refused(t, "P12.7.2", "Save of 1 again", s.Save(shot(1, part("5"))), at(1, "", api.ErrVaultId))
	s.saved(t, shot(7, part("5")))
	s.has(t, "P12.6", 8, 1, 7)
}

// TestFullSegments: each part in a file of its own, in order, and a manifest of their sizes and sums.
func TestFullSegments(t *testing.T) {
	want := api.Shot{Id: 300, Sum: 0x01020304, Parts: []api.Part{
		part("3; a:[1]; b:[]", "a=1 / ", "p=1 | q=2@0@1"), part("0"), part("1073741824", "a=1 / b=2 / c=3 / d=4"), part("0", "", "p=none"), part(`0; a:["t", [1, none]]`),
	}}
	s := begun(t).saved(t, want)
	s.lies(t, "P12.2", "man-0300 seg-0300-00 seg-0300-01 seg-0300-02 seg-0300-03 seg-0300-04")
	if got := s.Files(); !sameFiles(got, begun(t, handmade(want)...).Files()) {
		t.Errorf("P12.2: the files are %v, want %v", got, handmade(want))
	}
	s.loads(t, "P12.11", want)
}

// TestADifference: its bytes, and that its base's sum is that of the body alone.
func TestADifference(t *testing.T) {
	first := shot(3, part("1; a:[1, 2]; b:[3, 4]; c:[5, 6]", "a=1", "p=1"))
	second := shot(4, part("2; a:[1, 2]; b:[3, 4]; d:[]", "b=2 / ", "q=2"))
	s := begun(t).saved(t, first, second)
	full := segmentBody(api.Segment{Id: 3, State: first.Parts[0].State, Logs: first.Parts[0].Logs, Pend: first.Parts[0].Pend})
	less := segmentBody(api.Segment{Id: 4, Base: 3, BaseSum: crc32.ChecksumIEEE(full), Delta: pen.ReadDelta("2; d:[]; -c"), Logs: second.Parts[0].Logs, Pend: second.Parts[0].Pend})
	want := []api.File{
		sureFile("man-0003", frameOf(manifestBody(api.Manifest{Id: 3, Sum: 7, Rows: []api.Row{{Size: len(full) + 8, Check: crc32.ChecksumIEEE(full)}}}))),
		sureFile("man-0004", frameOf(manifestBody(api.Manifest{Id: 4, Sum: 7, Rows: []api.Row{{Size: len(less) + 8, Check: crc32.ChecksumIEEE(less)}}}))),
		sureFile("seg-0003-00", frameOf(full)),
		sureFile("seg-0004-00", frameOf(less)),
	}
	if got := s.Files(); !sameFiles(got, want) {
		t.Errorf("P12.3: the files are %v, want %v", got, want)
	}
	s.loads(t, "P12.11", first)
	s.loads(t, "P12.11", second)
}

// A wrongShot is one that can't be saved over a disk whose next number is 4, and why.
type wrongShot struct {
	what string
	shot api.Shot
	want api.Lost
}

// long gives so many records that are as long as may be; 200 of them can't be framed together.
func long(records int) []api.Record {
	r := api.Record{Key: "twelve bytes", Val: api.Value{Kind: api.List, Items: slices.Repeat([]api.Value{text(strings.Repeat("t", 24))}, 6)}}
	return slices.Repeat([]api.Record{r}, records)
}

// wrongShots gives shots that can't be saved, in the order of P12.7; many are wrong in what comes later there too.
func wrongShots() []wrongShot {
	bad := api.Part{State: api.State{Num: -1}}
	many := slices.Repeat([]api.Part{bad}, 13)
	all := []wrongShot{}
	for _, id := range []int{math.MinInt, -1, 0, 1, 3, 10000, 10001, math.MaxInt} {
		for _, parts := range [][]api.Part{nil, {}, many, {part("1")}, {bad}} {
			all = append(all, wrongShot{"a number", shot(id, parts...), at(id, "", api.ErrVaultId)})
		}
	}
	for _, id := range []int{4, 5, 9999} {
		for _, parts := range [][]api.Part{nil, {}, many, slices.Repeat([]api.Part{part("1")}, 13), make([]api.Part, 1000)} {
			all = append(all, wrongShot{"a number of parts", shot(id, parts...), at(id, "", api.ErrVaultPart)})
		}
	}
	for _, x := range wrongParts() {
		for k := range 12 {
			all = append(all, wrongIn(4, k, x, 11, x), wrongIn(9999, k, x, k, x))
		}
		for _, y := range wrongParts() {
			all = append(all, wrongIn(4, 0, x, 1, y), wrongIn(5, 3, x, 11, y))
		}
	}
	return all
}

// wrongIn gives a shot of twelve parts, of which two are wrong; the first of them is told.
func wrongIn(id, first int, x wrongPart, second int, y wrongPart) wrongShot {
	parts := slices.Repeat([]api.Part{part("1")}, 12)
	parts[second] = y.part
	parts[first] = x.part
	return wrongShot{fmt.Sprint("parts ", first, " and ", second), shot(id, parts...), at(id, seg(id, first), x.err)}
}

type wrongPart struct {
	part api.Part
	err  api.Errno
}

// wrongParts gives parts whose segment can't be put or framed.
func wrongParts() []wrongPart {
	records := func(r api.Record) []api.Record { return []api.Record{{}, r, {Loops: []int{-1}}} }
	return []wrongPart{
		{api.Part{State: api.State{Num: -1}}, api.ErrValNum},
		{api.Part{State: api.State{Num: api.MaxNum + 1}, Pend: long(256)}, api.ErrValNum},
		{api.Part{State: pen.ReadState("0; b:[]; a:[]")}, api.ErrValCells},
		{api.Part{State: pen.ReadState("0; thirteenbytes:[]"), Logs: make([][]api.Record, 5)}, api.ErrValKey},
		{api.Part{Logs: make([][]api.Record, 5), Pend: records(api.Record{Key: "thirteenbytes"})}, api.ErrWireBound},
		{api.Part{Logs: [][]api.Record{long(256), make([]api.Record, 257)}}, api.ErrWireBound},
		{api.Part{Logs: [][]api.Record{long(256), records(api.Record{Val: api.Value{Kind: 4}})}}, api.ErrValKind},
		{api.Part{Pend: records(api.Record{Key: "thirteenbytes"})}, api.ErrValKey},
		{api.Part{Pend: make([]api.Record, 257)}, api.ErrWireBound},
		{api.Part{Logs: [][]api.Record{long(256)}}, api.ErrFrameBody},
		{api.Part{Pend: long(256)}, api.ErrFrameBody},
	}
}

// TestErrorsOfSave: each in its order, and nothing is changed.
func TestErrorsOfSave(t *testing.T) {
	s := begun(t).saved(t, wideShot(2))
	s.Append("seg-0003-04", []byte{1, 2})
	before := s.Files()
	s.Fail(0, 1)
	for _, x := range wrongShots() {
		refused(t, "P12.7", "Save, wrong in "+x.what, s.Save(x.shot), x.want)
		if !sameFiles(s.Files(), before) {
			t.Fatalf("P12.7: a refused Save of %s changes the files to %s", shotTold(x.shot), told(s.Files()))
		}
	}
	refused(t, "P12.7", "the first changing call, behind all that were refused", s.Save(wideShot(4)), at(4, "seg-0004-00", api.ErrDiskIO))
	s.Crash()
	for _, x := range append(wrongShots(), wrongShot{shot: wideShot(4)}) {
		refused(t, "P12.7.1", "Save while the machine is down", s.Save(x.shot), at(x.shot.Id, "", api.ErrDiskDown))
	}
	if !sameFiles(s.Files(), before) {
		t.Errorf("P12.7: Save changes the files while the machine is down")
	}
}

func TestNumbersOfShots(t *testing.T) {
	for _, id := range []int{4, 5, 6, 127, 128, 9998, 9999} {
		s := begun(t, api.File{Name: "seg-0003-04"}).saved(t, shot(id, part("1")))
		s.loads(t, "P12.7.2", shot(id, part("1")))
		s.has(t, "P12.6", id+1, id)
	}
	s := begun(t, api.File{Name: "seg-9999-04"})
	for _, id := range []int{1, 9999, 10000} {
		refused(t, "P12.7.2", "Save where Next is 10000", s.Save(shot(id, part("1"))), at(id, "", api.ErrVaultId))
	}
	for _, count := range []int{1, 2, 11, 12} {
		want := shot(1, slices.Repeat([]api.Part{part("1; a:[2]")}, count)...)
		s := begun(t).saved(t, want)
		s.loads(t, "P12.7.3", want)
		if got := len(s.Files()); got != count+1 {
			t.Errorf("P12.9: a shot of %d parts has %d files", count, got)
		}
	}
}

// saves stores a shot, and gives by part the number of the base that its segment has.
func (s store) saves(t *testing.T, one api.Shot) []int {
	t.Helper()
	s.saved(t, one).loads(t, "P12.11", one)
	var bases []int
	for task := range one.Parts {
		bases = append(bases, s.segmentAt(t, seg(one.Id, task)).Base)
	}
	return bases
}

func wantBases(t *testing.T, promise string, got []int, want ...int) {
	t.Helper()
	if !slices.Equal(got, want) {
		t.Errorf("%s: the segments' bases are %v, want %v", promise, got, want)
	}
}

// TestChains: four differences, each from the one ahead of it, then a full segment again.
func TestChains(t *testing.T) {
	s := begun(t)
	for id := 1; id <= 12; id++ {
		want := id - 1
		if id%5 == 1 {
			want = 0
		}
		wantBases(t, "P12.8", s.saves(t, wideShot(id)), want)
	}
	for id := 1; id <= 12; id++ {
		s.loads(t, "P12.11", wideShot(id))
	}
}

// TestChainsOfTasks: each task has a chain of its own.
func TestChainsOfTasks(t *testing.T) {
	s := begun(t)
	grows := func(id int, whole ...bool) api.Shot {
		one := shot(id)
		for _, w := range whole {
			p := api.Part{State: wide(20, int64(1000+id))}
			if w { // no cell of it is an old one
				for k := range p.State.Cells {
					p.State.Cells[k].Vals[0] = num(int64(5000*id + k))
				}
			}
			one.Parts = append(one.Parts, p)
		}
		return one
	}
	wantBases(t, "P12.8", s.saves(t, grows(1, false, false)), 0, 0)
	wantBases(t, "P12.8", s.saves(t, grows(2, false, true)), 1, 0)
	wantBases(t, "P12.8", s.saves(t, grows(3, false, true, false)), 2, 0, 0)
	wantBases(t, "P12.8", s.saves(t, grows(4, false, true, false)), 3, 0, 3)
	wantBases(t, "P12.8", s.saves(t, shot(5, grows(5, false).Parts[0], grows(4, true).Parts[0])), 4, 4)
	wantBases(t, "P12.8", s.saves(t, shot(6, grows(6, false).Parts[0], grows(4, true).Parts[0], grows(4, false).Parts[0])), 0, 5, 0)
	wantBases(t, "P12.8", s.saves(t, shot(8, grows(6, false).Parts[0])), 6)
}

// TestTheBaseIsSure: the newest sure shot, not a newer one that is complete, that is torn or that has lost its base.
func TestTheBaseIsSure(t *testing.T) {
	s := begun(t)
	s.Fail(3, 1)
	refused(t, "P12.9", "Save with its last Sync failing", s.Save(wideShot(1)), at(1, "man-0001", api.ErrDiskIO))
	s.has(t, "P12.6", 2, 1)
	wantBases(t, "P12.8", s.again(t).saves(t, wideShot(2)), 0)
	sure := s.again(t)
	sure.Sync("man-0001")
	wantBases(t, "P12.8", sure.saves(t, wideShot(2)), 1)
	sure.Fail(3, 1)
	refused(t, "P12.9", "Save with its last Sync failing", sure.Save(wideShot(3)), at(3, "man-0003", api.ErrDiskIO))
	sure.has(t, "P12.6", 4, 1, 2, 3)
	wantBases(t, "P12.8", sure.again(t).saves(t, wideShot(4)), 2)
	late := sure.again(t)
	late.Restart([]int{1 << 20})
	wantBases(t, "P12.8", late.again(t).saves(t, wideShot(4)), 3)
	for name, base := range map[string]int{"seg-0001-00": 0, "man-0001": 3, "seg-0002-00": 1, "man-0002": 3, "seg-0003-00": 2, "man-0003": 2} {
		for _, unsure := range []int{1, 9} {
			files := late.Files()
			for k := range files {
				if files[k].Name == name {
					files[k].Synced -= unsure
				}
			}
			wantBases(t, fmt.Sprint("P12.8, unsure bytes of ", name, ": ", unsure), begun(t, files...).saves(t, wideShot(4)), base)
		}
	}
}

// TestABaseThatIsSpoilt: one that doesn't load is none.
func TestABaseThatIsSpoilt(t *testing.T) {
	for _, x := range []struct {
		name string
		base int
	}{{"seg-0001-00", 0}, {"man-0001", 3}, {"seg-0002-00", 1}, {"man-0002", 3}, {"seg-0003-00", 2}, {"man-0003", 2}} {
		s := begun(t).saved(t, wideShot(1), wideShot(2), wideShot(3))
		if !s.Spoil(x.name, 70) {
			t.Fatalf("%s has no bit 70", x.name)
		}
		wantBases(t, "P12.8, "+x.name+" is spoilt", s.saves(t, wideShot(4)), x.base)
	}
	files, shots := chained(5)
	s := begun(t, files...)
	last := shots[4]
	last.Id = 6
	wantBases(t, "P12.8, four differences", s.saves(t, last), 0)
}

// TestTheShorterOne: a difference has five bytes more than a full segment, and none of the cells that it needn't tell.
func TestTheShorterOne(t *testing.T) {
	for _, x := range []struct {
		cells string // as they stand in both states
		base  int
	}{
		{"", 0},
		{"; a:[]", 0},
		{"; ab:[]", 0},
		{"; a:[1]", 0},  // equally many
		{"; abc:[]", 0}, // equally many
		{"; ab:[1]", 1},
		{"; abcd:[]", 1},
		{"; a:[100]", 1},
		{"; a:[1]; b:[]", 1},
	} {
		s := begun(t).saved(t, shot(1, part("1"+x.cells)))
		wantBases(t, "P12.8, cells"+x.cells, s.saves(t, shot(2, part("2"+x.cells))), x.base)
	}
	// Keys that go are told in a difference alone.
	s := begun(t).saved(t, shot(1, part("1; a:[1]; b:[2]; c:[3]")))
	wantBases(t, "P12.8", s.saves(t, shot(2, part("1"))), 0)
	wantBases(t, "P12.8", s.saves(t, shot(3, part("1; z:[1]"))), 0)
	// The base's number takes a byte more from 128 on.
	for id, base := range map[int]int{127: 127, 128: 0} {
		s := begun(t).saved(t, shot(id, part("1; ab:[1]")))
		wantBases(t, "P12.8", s.saves(t, shot(id+1, part("1; ab:[1]"))), base)
	}
}

// heavy gives a state whose bytes are many: a full segment of it can just be framed.
func heavy() api.State {
	s := api.State{Num: 1}
	for k := range 64 {
		s.Cells = append(s.Cells, api.Cell{Key: fmt.Sprintf("k%02d", k), Vals: slices.Repeat([]api.Value{text(strings.Repeat("t", 24))}, 6)})
	}
	for k := 0; len(segmentBody(api.Segment{State: s})) < api.MaxBody-200; k++ {
		s.Cells[k%64].Vals[k/64] = long(1)[0].Val
	}
	return s
}

// TestWhatCantBeFramed: a full segment that is too long is stored as a difference, where it can be one.
func TestWhatCantBeFramed(t *testing.T) {
	state := heavy()
	first, second := shot(1, api.Part{State: state}), shot(2, part("0"), api.Part{State: state, Pend: long(3)})
	if size := len(segmentBody(api.Segment{State: state, Pend: long(3)})); size <= api.MaxBody || size > api.MaxBody+1000 {
		t.Fatalf("a segment of %d bytes is no edge", size)
	}
	s := begun(t)
	refused(t, "P12.7.4, no base", "Save", s.Save(second), at(2, "seg-0002-01", api.ErrFrameBody))
	wantBases(t, "P12.8", s.saves(t, first), 0)
	refused(t, "P12.7.4, a base without this part", "Save", s.Save(second), at(2, "seg-0002-01", api.ErrFrameBody))
	for id := 2; id <= 5; id++ {
		one := shot(id, api.Part{State: state, Pend: long(3)})
		wantBases(t, "P12.8, too long as a full one", s.saves(t, one), id-1)
		both := shot(id+1, api.Part{State: state, Pend: long(256)})
		refused(t, "P12.7.4, too long in both ways", "Save", s.Save(both), at(id+1, seg(id+1, 0), api.ErrFrameBody))
		unlike := shot(id+1, api.Part{State: pen.ReadState("1"), Pend: long(256)})
		refused(t, "P12.7.4, too long in both ways", "Save", s.Save(unlike), at(id+1, seg(id+1, 0), api.ErrFrameBody))
	}
	refused(t, "P12.7.4, the chain is as long as it may be", "Save", s.Save(shot(6, api.Part{State: state, Pend: long(3)})), at(6, "seg-0006-00", api.ErrFrameBody))
	wantBases(t, "P12.8", s.saves(t, shot(6, api.Part{State: state})), 0)
	wantBases(t, "P12.8", s.saves(t, shot(7, api.Part{State: state, Pend: long(3)})), 6)
}

// sized gives a part whose full segment, of a shot and a task with small numbers, has so many bytes.
func sized(size int) api.Part {
	p := api.Part{Pend: long(180)}
	missing := func() int { return size - len(segmentBody(api.Segment{Pend: p.Pend})) }
	for missing() >= 3 {
		p.Pend = append(p.Pend, api.Record{})
		if missing() > 200 {
			p.Pend = append(p.Pend, long(1)...)
		}
	}
	p.Pend[len(p.Pend)-1].Key = strings.Repeat("k", missing())
	return p
}

// TestBodiesAtTheBound: a full segment of just MaxBody bytes is framed, one of a byte more isn't.
func TestBodiesAtTheBound(t *testing.T) {
	for size := api.MaxBody - 2; size <= api.MaxBody+2; size++ {
		one := shot(1, sized(size))
		if got := len(segmentBody(api.Segment{Id: 1, Pend: one.Parts[0].Pend})); got != size {
			t.Fatalf("the segment has %d bytes, want %d", got, size)
		}
		s := begun(t)
		if size > api.MaxBody {
			refused(t, "P12.7.4", fmt.Sprint("Save of a body of ", size, " bytes"), s.Save(one), at(1, "seg-0001-00", api.ErrFrameBody))
		} else {
			s.saved(t, one).loads(t, "P12.11", one)
		}
	}
}

// TestEachCallOfASave: they come in their order, each two of a file, and the first that fails ends it.
func TestEachCallOfASave(t *testing.T) {
	for _, count := range []int{1, 2, 12} {
		parts := slices.Repeat([]api.Part{{State: wide(8, 3)}}, count)
		ready := begun(t).saved(t, shot(1, parts...))
		names := []string{}
		for task := range count {
			names = append(names, seg(2, task))
		}
		names = append(names, "man-0002")
		whole := ready.again(t).saved(t, shot(2, parts...))
		for call := range 2*count + 2 {
			s := ready.again(t)
			s.Fail(call, 1)
			name := names[call/2]
			refused(t, "P12.9", fmt.Sprint("Save whose call ", call, " fails"), s.Save(shot(2, parts...)), at(2, name, api.ErrDiskIO))
			s.halfWritten(t, whole, names[:call/2], name, call%2 == 1)
			next := 3
			if call == 0 {
				next = 2
			}
			if s.Next() != next {
				t.Errorf("P12.9: behind call %d, Next answers %d, want %d", call, s.Next(), next)
			}
			if complete := call == 2*count+1; slices.Contains(s.Ids(), 2) != complete {
				t.Errorf("P12.9: behind call %d, Ids answers %v", call, s.Ids())
			}
			s.loads(t, "P12.11", shot(1, parts...))
		}
		s := ready.again(t)
		s.Fail(2*count+2, 1)
		s.saved(t, shot(2, parts...))
		if e := s.Sync("man-0001"); e != api.ErrDiskIO {
			t.Errorf("P12.9: Save of %d parts makes fewer than %d changing calls", count, 2*count+2)
		}
	}
}

// halfWritten fails the test where not just the files of this Save that are told stand: some sure, and if the last one stands, none of its bytes sure.
func (s store) halfWritten(t *testing.T, whole store, sure []string, last string, stands bool) {
	t.Helper()
	var want []api.File
	for _, f := range whole.Files() {
		old := strings.Contains(f.Name, "0001")
		if f.Name == last && stands {
			f.Synced = 0
			want = append(want, f)
		} else if old || slices.Contains(sure, f.Name) {
			want = append(want, f)
		}
	}
	if got := s.Files(); !sameFiles(got, want) {
		t.Errorf("P12.9: the files are %s, want %s", told(got), told(want))
	}
}

// TestADiskThatIsFull: the error of an Append is told as it is.
func TestADiskThatIsFull(t *testing.T) {
	for free := range 4 {
		var files []api.File
		for k := range api.MaxFiles - free {
			files = append(files, api.File{Name: fmt.Sprint("f", k)})
		}
		s := begun(t, files...)
		err := s.Save(shot(1, part("1"), part("2")))
		if free == 3 {
			if err != nil {
				t.Errorf("P12.9: with room for three files Save answers %v", err)
			}
			continue
		}
		refused(t, "P12.9", fmt.Sprint("Save with room for ", free, " files"), err, at(1, []string{"seg-0001-00", "seg-0001-01", "man-0001"}[free], api.ErrDiskFull))
		if got := len(s.Files()); got != api.MaxFiles {
			t.Errorf("P12.9: %d files stand then", got)
		}
	}
}

// TestFailuresAreTold: the chapter's fourth example.
func TestFailuresAreTold(t *testing.T) {
	s := begun(t).saved(t, wideShot(1))
	s.Fail(0, 1)
	refused(t, "P12.9", "Fail(0, 1) and Save", s.Save(wideShot(2)), at(2, "seg-0002-00", api.ErrDiskIO))
	s.lies(t, "P12.9", "man-0001 seg-0001-00")
	s.has(t, "P12.6", 2, 1)
	s.Fail(1, 1)
	refused(t, "P12.9", "Fail(1, 1) and Save", s.Save(wideShot(2)), at(2, "seg-0002-00", api.ErrDiskIO))
	s.lies(t, "P12.9", "man-0001 seg-0001-00 seg-0002-00")
	s.has(t, "P12.6", 3, 1)
	s.Fail(3, 1)
	refused(t, "P12.9", "Fail(3, 1) and Save", s.Save(wideShot(3)), at(3, "man-0003", api.ErrDiskIO))
	s.has(t, "P12.6", 4, 1, 3)
	s.loads(t, "P12.4", wideShot(3))
	wantBases(t, "P12.8", s.again(t).saves(t, wideShot(4)), 1)
	fallen := s.again(t)
	fallen.Restart(nil)
	fallen.has(t, "P12.12", 4, 1)
	fallen = s.again(t)
	fallen.Restart([]int{1 << 20})
	fallen.has(t, "P12.12", 4, 1, 3)
	if err := s.Prune(); err != nil {
		t.Errorf("P12.10: Prune answers %v", err)
	}
	s.has(t, "P12.10", 2, 1)
	s.lies(t, "P12.10", "man-0001 seg-0001-00")
}
