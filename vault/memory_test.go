package vault_test

import (
	"errors"
	"slices"
	"strings"
	"sync"
	"testing"
	"unsafe"

	"eddy/api"
	"eddy/equal"
	"eddy/memory"
	"eddy/pen"
	"eddy/vault"
)

const rules = "P12, The face"

// lent gives a text in bytes of its own, which can be written over afterwards.
func lent(s string) string {
	b := []byte(s)
	return unsafe.String(unsafe.SliceData(b), len(b))
}

// roomy copies a shot: each list has spare room behind it that holds marks, each text is lent.
func roomy(s api.Shot) api.Shot { return memory.Roomy(s, lent) }

// writeOver writes over all that hangs on a roomy shot, its texts too.
func writeOver(s api.Shot) {
	m := memory.Of(s)
	for _, text := range m.Texts() {
		pen.Fill([][]byte{unsafe.Slice(unsafe.StringData(text), len(text))}, '#')
	}
	m.Scribble()
}

// memoryShots gives shots, one behind the other, that a store takes, some full and some as differences.
func memoryShots(seed int) []api.Shot {
	d := seeded(seed)
	var all []api.Shot
	for id := 1; id <= 5; id++ {
		all = append(all, d.shot(id))
	}
	return all
}

// stays lets a shot be saved, well or not, and fails the test where that changes anything of it, or of the spare room behind its lists.
func (s store) stays(t *testing.T, given api.Shot) {
	t.Helper()
	before := memory.Of(given).Told()
	if s.Save(given); memory.Of(given).Told() != before {
		t.Fatalf("%s: Save of %s changes what it is handed, or the spare room behind it", rules, shotTold(given))
	}
}

// TestWhatIsHandedInStays: a Save, a right one or not, changes nothing of it and keeps nothing of it, not even of its texts.
func TestWhatIsHandedInStays(t *testing.T) {
	for seed := range 40 {
		s := begun(t)
		for _, want := range memoryShots(seed) {
			for _, bad := range []api.Shot{seeded(5*seed + want.Id).spoilt(roomy(want)), shot(0, want.Parts...)} {
				s.again(t).stays(t, roomy(bad))
			}
			given := roomy(want)
			s.stays(t, given)
			files := s.Files()
			writeOver(given)
			if !sameFiles(s.Files(), files) {
				t.Fatalf("%s: Save of %s keeps what it is handed", rules, shotTold(want))
			}
			s.loads(t, rules, want)
		}
	}
	wrong := wrongShots()
	for k := 0; k < len(wrong); k += 17 {
		begun(t).saved(t, wideShot(2)).stays(t, roomy(wrong[k].shot))
	}
}

// TestAnswersAreNewMemory: no two lists of one or of two answers share any, and what is written into one is seen nowhere else.
func TestAnswersAreNewMemory(t *testing.T) {
	for seed := range 60 {
		shots := memoryShots(seed)
		s := begun(t).saved(t, shots...)
		files := s.Files()
		for _, want := range shots {
			a, _ := s.Load(want.Id)
			b, _ := s.Load(want.Id)
			c, _ := s.Load(1)
			ids, again := s.Ids(), s.Ids()
			all := memory.Of(a, b, c, ids, again)
			memory.Of(a, ids).Extend()
			if !equal.Shot(a, want) || !slices.Equal(ids, []int{1, 2, 3, 4, 5}) {
				t.Fatalf("%s: what is appended to a list of Load(%d)'s answer is seen in another", rules, want.Id)
			}
			memory.Of(a, c, ids).Scribble()
			if !equal.Shot(b, want) || !slices.Equal(again, []int{1, 2, 3, 4, 5}) || !sameFiles(s.Files(), files) {
				t.Fatalf("%s: what is written into the answer of Load(%d) is seen elsewhere", rules, want.Id)
			}
			if !all.Apart() {
				t.Fatalf("%s: two lists of what Load(%d) and Ids answer share memory", rules, want.Id)
			}
			s.loads(t, rules, want)
			s.has(t, rules, 6, 1, 2, 3, 4, 5)
		}
	}
}

// TestErrorsAreNewMemory: an error that is written over is no other one.
func TestErrorsAreNewMemory(t *testing.T) {
	s := begun(t)
	for range 2 {
		var l *api.Lost
		_, err := s.Load(1)
		refused(t, rules, "Load(1)", err, at(1, "man-0001", api.ErrVaultGone))
		if errors.As(err, &l) {
			*l = api.Lost{Id: 4711, Name: "scribbled", Err: api.OK}
		}
	}
}

// TestOneListHandedInTwice: parts that share their lists are stored and loaded apart.
func TestOneListHandedInTwice(t *testing.T) {
	p := api.Part{State: wide(20, 5), Logs: [][]api.Record{long(2), long(1)}, Pend: long(2)}
	p.Logs[1] = p.Logs[0]
	one := shot(1, p, p, p)
	before := memory.Of(one).Told()
	s := begun(t).saved(t, one, shot(2, one.Parts...))
	for id := 1; id <= 2; id++ {
		got, err := s.Load(id)
		if one.Id = id; err != nil || !equal.Shot(got, one) || !memory.Of(got).Apart() {
			t.Errorf("%s: Load(%d) answers %s, %v, or lists of it share memory", rules, id, shotTold(got), err)
		}
	}
	if memory.Of(one).Told() != before {
		t.Errorf("%s: what is handed in is changed", rules)
	}
}

// TestNilAndEmptyAreTheSame: as each list of a shot, and of the files of a disk.
func TestNilAndEmptyAreTheSame(t *testing.T) {
	values := [][]api.Value{nil, {}, make([]api.Value, 1)[:0]}
	records := [][]api.Record{nil, {}, long(1)[:0]}
	logs := [][][]api.Record{nil, {}, {long(1)}}
	cells := [][]api.Cell{nil, {}, wide(1, 1).Cells[:0]}
	var first []api.File
	for k := range 3 {
		one := shot(1, api.Part{State: api.State{Num: 3, Cells: cells[k]}, Logs: logs[k][:0], Pend: records[k]},
			api.Part{State: api.State{Cells: []api.Cell{{Key: "a", Vals: values[k]}, {Key: "b", Vals: []api.Value{{Kind: api.List, Items: values[k]}}}}},
				Logs: [][]api.Record{records[k], {{Loops: make([]int, k)[:0]}}}})
		s := begun(t).saved(t, one)
		if first == nil {
			first = s.Files()
		}
		if !sameFiles(s.Files(), first) {
			t.Errorf("%s: the files of shot %s are %s, want %s", rules, shotTold(one), told(s.Files()), told(first))
		}
		s.loads(t, rules, shot(1, part("3"), part("0; a:[]; b:[[]]", " / =none")))
		refused(t, rules, "Save of no parts", s.Save(api.Shot{Id: 2, Parts: [][]api.Part{nil, {}, make([]api.Part, 1)[:0]}[k]}), at(2, "", api.ErrVaultPart))
	}
}

// TestThingsFarBeyondTheLimits: they are refused, and nothing panics.
func TestThingsFarBeyondTheLimits(t *testing.T) {
	deep := num(1)
	for range 1 << 15 {
		deep = api.Value{Kind: api.List, Items: []api.Value{deep}}
	}
	huge := strings.Repeat("t", 1<<20)
	s := begun(t).saved(t, wideShot(1))
	before := s.Files()
	for _, x := range []wrongPart{
		{api.Part{Pend: []api.Record{{Val: deep}}}, api.ErrValDepth},
		{api.Part{State: api.State{Cells: []api.Cell{{Vals: []api.Value{deep}}}}}, api.ErrValDepth},
		{api.Part{State: api.State{Cells: make([]api.Cell, 1<<16)}}, api.ErrValCells},
		{api.Part{State: api.State{Cells: []api.Cell{{Key: huge}}}}, api.ErrValKey},
		{api.Part{Logs: make([][]api.Record, 1<<16)}, api.ErrWireBound},
		{api.Part{Logs: [][]api.Record{make([]api.Record, 1<<16)}}, api.ErrWireBound},
		{api.Part{Pend: []api.Record{{Val: text(huge)}}}, api.ErrValText},
	} {
		refused(t, rules, "Save of much", s.Save(shot(2, part("1"), x.part)), at(2, "seg-0002-01", x.err))
	}
	refused(t, rules, "Save of many parts", s.Save(api.Shot{Id: 2, Parts: make([]api.Part, 1<<16)}), at(2, "", api.ErrVaultPart))
	if !sameFiles(s.Files(), before) {
		t.Errorf("%s: a refused Save changes the files", rules)
	}
}

// TestAnyBytes: files of any bytes under names of the vault's, as great as a disk lets them be; every call ends.
func TestAnyBytes(t *testing.T) {
	for seed := range 300 {
		d := seeded(seed)
		var files []api.File
		held := begun(t).saved(t, memoryShots(seed)[:3]...).Files()
		for _, f := range held {
			switch d.Below(6) {
			case 0:
				f.Data = held[d.Below(len(held))].Data
			case 1:
				f.Data = slices.Concat(f.Data, f.Data)
			case 2:
				f.Data = make([]byte, api.MaxFile*d.Below(2))
			case 3:
				for range d.Between(1, 3) {
					f.Data[d.Below(len(f.Data))] = byte(d.Below(256))
				}
			}
			f.Synced = d.Below(len(f.Data) + 1)
			files = append(files, f)
		}
		a, b := begun(t, files...), begun(t, files...)
		one, other := side{a.Disk, a.Vault}, side{b.Disk, model{b.Disk}}
		for _, x := range []step{loadOf(1), loadOf(2), loadOf(3), saveOf(d.shot(4)), loadOf(4), {"Prune", func(s side) answer { return answer{err: s.Prune()} }}} {
			if got, want := x.do(one), x.do(other); !sameAnswer(got, want) || !sameFiles(one.Files(), other.Files()) {
				t.Fatalf("P12.4 to P12.10: seed %d: %s over %s answers %+v, want %+v", seed, x.what, told(files), got, want)
			}
		}
	}
}

// TestVaultsAtTheSameTime: each has a disk and a goroutine of its own, and all are handed the same shots.
func TestVaultsAtTheSameTime(t *testing.T) {
	shots := memoryShots(3)
	want := begun(t).saved(t, shots...).Files()
	var all sync.WaitGroup
	for range 16 {
		s := begun(t)
		all.Go(func() {
			for _, one := range shots {
				if err := s.Save(one); err != nil {
					t.Errorf("%s: Save of %d answers %v", rules, one.Id, err)
				}
			}
			if !sameFiles(s.Files(), want) {
				t.Errorf("%s: the same shots are stored as %s and as %s", rules, told(s.Files()), told(want))
			}
		})
	}
	all.Wait()
}

// TestTheSameCallsAnswerTheSame: however the goroutines run that make the segments.
func TestTheSameCallsAnswerTheSame(t *testing.T) {
	parts := make([]api.Part, 12)
	for k := range parts {
		parts[k] = api.Part{State: wide(64-5*k, int64(k)), Pend: long(k % 3)}
	}
	var first []api.File
	for range 200 {
		s := begun(t).saved(t, shot(1, parts...), shot(2, parts...))
		if first == nil {
			first = s.Files()
		}
		if !sameFiles(s.Files(), first) {
			t.Fatalf("P12.9: the same shots are stored as %s and as %s", told(first), told(s.Files()))
		}
	}
	wrong := shot(3, parts...)
	wrong.Parts[4].State.Num, wrong.Parts[9].State.Num = -1, -1
	for range 200 {
		refused(t, "P12.7.4", "Save of two wrong parts", vault.Open(begun(t).Disk).Save(wrong), at(3, "seg-0003-04", api.ErrValNum))
	}
}
