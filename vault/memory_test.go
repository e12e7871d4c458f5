package vault_test

import (
	"cmp"
	"errors"
	"fmt"
	"reflect"
	"runtime"
	"slices"
	"strings"
	"sync"
	"testing"
	"unsafe"

	"eddy/api"
	"eddy/equal"
	"eddy/vault"
)

const rules = "P12, The face"

// lent gives a text in bytes of its own, which can be written over afterwards.
func lent(s string) string {
	b := []byte(s)
	return unsafe.String(unsafe.SliceData(b), len(b))
}

// roomy copies a thing: each list has spare room behind it that holds marks, each text is lent.
func roomy[T any](x T) T { return copied(reflect.ValueOf(x)).Interface().(T) }

func copied(v reflect.Value) reflect.Value {
	all := reflect.New(v.Type()).Elem()
	switch v.Kind() {
	case reflect.Slice:
		all.Set(reflect.MakeSlice(v.Type(), v.Len()+3, v.Len()+3))
		for k := range all.Len() {
			if k < v.Len() {
				all.Index(k).Set(copied(v.Index(k)))
			} else {
				all.Index(k).Set(marked(v.Type().Elem(), "spare"))
			}
		}
		return all.Slice(0, v.Len())
	case reflect.Struct:
		for k := range v.NumField() {
			all.Field(k).Set(copied(v.Field(k)))
		}
	case reflect.String:
		all.SetString(lent(v.String()))
	default:
		all.Set(v)
	}
	return all
}

// marked gives a thing whose numbers and texts are marks, and whose lists are none.
func marked(of reflect.Type, mark string) reflect.Value {
	v := reflect.New(of).Elem()
	switch of.Kind() {
	case reflect.Int, reflect.Int64:
		v.SetInt(4711)
	case reflect.Uint32:
		v.SetUint(4711)
	case reflect.String:
		v.SetString(mark)
	case reflect.Struct:
		for k := range of.NumField() {
			v.Field(k).Set(marked(of.Field(k).Type, mark))
		}
	}
	return v
}

// eachList goes through all lists that hang on a thing, the inner ones first, each with its spare room; and through all texts.
func eachList(v reflect.Value, list, text func(v reflect.Value)) {
	switch v.Kind() {
	case reflect.Slice:
		for k := range v.Len() {
			eachList(v.Index(k), list, text)
		}
		if v.Cap() > 0 {
			list(v.Slice(0, v.Cap()))
		}
	case reflect.Struct:
		for k := range v.NumField() {
			eachList(v.Field(k), list, text)
		}
	case reflect.String:
		text(v)
	}
}

func nothing(reflect.Value) {}

// whole writes all that hangs on a thing, list by list, spare room too.
func whole(x any) string {
	var all strings.Builder
	eachList(reflect.ValueOf(x), func(l reflect.Value) {
		for k := range l.Len() {
			flat(&all, l.Index(k))
		}
		all.WriteString("\n")
	}, nothing)
	return all.String()
}

// flat writes a thing, but of the lists in it their lengths alone.
func flat(all *strings.Builder, v reflect.Value) {
	switch v.Kind() {
	case reflect.Struct:
		for k := range v.NumField() {
			flat(all, v.Field(k))
		}
	case reflect.Slice:
		fmt.Fprint(all, "[", v.Len(), "] ")
	default:
		fmt.Fprintf(all, "%#v ", v)
	}
}

// scribble writes over all lists of a thing and their spare room.
func scribble(x any) {
	eachList(reflect.ValueOf(x), func(l reflect.Value) {
		for k := range l.Len() {
			l.Index(k).Set(marked(l.Type().Elem(), "scribbled"))
		}
	}, nothing)
}

// scribbleTexts writes over the bytes of all texts of a thing, which must have been lent.
func scribbleTexts(x any) {
	eachList(reflect.ValueOf(x), nothing, func(v reflect.Value) {
		s := v.String()
		for k := range len(s) {
			unsafe.Slice(unsafe.StringData(s), len(s))[k] = '#'
		}
	})
}

// apart tells whether no two lists of some things share memory, spare room too.
func apart(things ...any) bool {
	type strip struct{ from, to uintptr }
	var all []strip
	for _, x := range things {
		eachList(reflect.ValueOf(x), func(l reflect.Value) {
			all = append(all, strip{l.Pointer(), l.Pointer() + uintptr(l.Len())*l.Type().Elem().Size()})
		}, nothing)
	}
	slices.SortFunc(all, func(a, b strip) int { return cmp.Compare(a.from, b.from) })
	for k := 1; k < len(all); k++ {
		if all[k].from < all[k-1].to {
			return false
		}
	}
	// Memory that is free again may be handed out anew.
	runtime.KeepAlive(things)
	return true
}

// extended appends to each list of a thing; nothing of it may be seen.
func extended(x any) {
	var each func(v reflect.Value)
	each = func(v reflect.Value) {
		switch v.Kind() {
		case reflect.Slice:
			reflect.Append(v, marked(v.Type().Elem(), "behind"), marked(v.Type().Elem(), "behind"))
			for k := range v.Len() {
				each(v.Index(k))
			}
		case reflect.Struct:
			for k := range v.NumField() {
				each(v.Field(k))
			}
		}
	}
	each(reflect.ValueOf(x))
}

// TestMemoryHelp: lists that share memory are seen, and so is what is written behind a list.
func TestMemoryHelp(t *testing.T) {
	one := shot(1, part("3; a:[[1], 2]; b:[]", "a=1@0 | b=2 / ", "p=1"))
	copy, again := roomy(one), roomy(one)
	if !equal.Shot(copy, one) || whole(copy) != whole(again) || whole(copy) == whole(one) {
		t.Errorf("a copy with spare room is %s", shotTold(copy))
	}
	if !apart(one, copy, again) || apart(copy, copy) || apart(one.Parts[0].Pend[:1], one.Parts[0].Pend) || apart(copy.Parts[0].State.Cells[:1], copy.Parts[0].State.Cells[1:]) {
		t.Error("lists that share memory are told as apart, or others as not")
	}
	before := whole(again)
	extended(again)
	if !equal.Shot(again, one) || whole(again) == before {
		t.Error("what is appended isn't seen in the spare room")
	}
	scribbleTexts(copy)
	if copy.Parts[0].State.Cells[0].Key != "#" || one.Parts[0].State.Cells[0].Key != "a" {
		t.Error("texts that are lent aren't written over")
	}
	if scribble(copy); equal.Shot(copy, one) || copy.Parts[0].Pend != nil {
		t.Error("lists aren't written over")
	}
}

// memoryShots gives shots, one behind the other, that a store takes, some full and some as differences.
func memoryShots(seed int) []api.Shot {
	d := seeded(seed)
	var all []api.Shot
	for id := 1; id <= 5; id++ {
		all = append(all, d.shot(id))
	}
	return all
}

// stays lets a shot be saved, well or not, and fails the test where that changes anything of it, or of the spare room behind its lists.
func (s store) stays(t *testing.T, given api.Shot) {
	t.Helper()
	before := whole(given)
	if s.Save(given); whole(given) != before {
		t.Fatalf("%s: Save of %s changes what it is handed, or the spare room behind it", rules, shotTold(given))
	}
}

// TestWhatIsHandedInStays: a Save, a right one or not, changes nothing of it and keeps nothing of it, not even of its texts.
func TestWhatIsHandedInStays(t *testing.T) {
	for seed := range 40 {
		s := begun(t)
		for _, want := range memoryShots(seed) {
			for _, bad := range []api.Shot{seeded(5*seed + want.Id).spoilt(roomy(want)), shot(0, want.Parts...)} {
				s.again(t).stays(t, roomy(bad))
			}
			given := roomy(want)
			s.stays(t, given)
			files := s.Files()
			scribbleTexts(given)
			scribble(given)
			if !sameFiles(s.Files(), files) {
				t.Fatalf("%s: Save of %s keeps what it is handed", rules, shotTold(want))
			}
			s.loads(t, rules, want)
		}
	}
	wrong := wrongShots()
	for k := 0; k < len(wrong); k += 17 {
		begun(t).saved(t, wideShot(2)).stays(t, roomy(wrong[k].shot))
	}
}

// TestAnswersAreNewMemory: no two lists of one or of two answers share any, and what is written into one is seen nowhere else.
func TestAnswersAreNewMemory(t *testing.T) {
	for seed := range 60 {
		shots := memoryShots(seed)
		s := begun(t).saved(t, shots...)
		files := s.Files()
		for _, want := range shots {
			a, _ := s.Load(want.Id)
			b, _ := s.Load(want.Id)
			c, _ := s.Load(1)
			ids, again := s.Ids(), s.Ids()
			if !apart(want, a, b, c, ids, again) {
				t.Fatalf("%s: two lists of what Load(%d) and Ids answer share memory", rules, want.Id)
			}
			extended(a)
			extended(ids)
			if !equal.Shot(a, want) || !slices.Equal(ids, []int{1, 2, 3, 4, 5}) {
				t.Fatalf("%s: what is appended to a list of Load(%d)'s answer is seen in another", rules, want.Id)
			}
			scribble(a)
			scribble(c)
			scribble(ids)
			if !equal.Shot(b, want) || !slices.Equal(again, []int{1, 2, 3, 4, 5}) || !sameFiles(s.Files(), files) {
				t.Fatalf("%s: what is written into the answer of Load(%d) is seen elsewhere", rules, want.Id)
			}
			s.loads(t, rules, want)
			s.has(t, rules, 6, 1, 2, 3, 4, 5)
		}
	}
}

// TestErrorsAreNewMemory: an error that is written over is no other one.
func TestErrorsAreNewMemory(t *testing.T) {
	s := begun(t)
	for range 2 {
		var l *api.Lost
		_, err := s.Load(1)
		refused(t, rules, "Load(1)", err, at(1, "man-0001", api.ErrVaultGone))
		if errors.As(err, &l) {
			*l = api.Lost{Id: 4711, Name: "scribbled", Err: api.OK}
		}
	}
}

// TestOneListHandedInTwice: parts that share their lists are stored and loaded apart.
func TestOneListHandedInTwice(t *testing.T) {
	p := api.Part{State: wide(20, 5), Logs: [][]api.Record{long(2), long(1)}, Pend: long(2)}
	p.Logs[1] = p.Logs[0]
	one := shot(1, p, p, p)
	before := whole(one)
	s := begun(t).saved(t, one, shot(2, one.Parts...))
	for id := 1; id <= 2; id++ {
		got, err := s.Load(id)
		if one.Id = id; err != nil || !equal.Shot(got, one) || !apart(got) {
			t.Errorf("%s: Load(%d) answers %s, %v, or lists of it share memory", rules, id, shotTold(got), err)
		}
	}
	if whole(one) != before {
		t.Errorf("%s: what is handed in is changed", rules)
	}
}

// TestNilAndEmptyAreTheSame: as each list of a shot, and of the files of a disk.
func TestNilAndEmptyAreTheSame(t *testing.T) {
	values := [][]api.Value{nil, {}, make([]api.Value, 1)[:0]}
	records := [][]api.Record{nil, {}, long(1)[:0]}
	logs := [][][]api.Record{nil, {}, {long(1)}}
	cells := [][]api.Cell{nil, {}, wide(1, 1).Cells[:0]}
	var first []api.File
	for k := range 3 {
		one := shot(1, api.Part{State: api.State{Num: 3, Cells: cells[k]}, Logs: logs[k][:0], Pend: records[k]},
			api.Part{State: api.State{Cells: []api.Cell{{Key: "a", Vals: values[k]}, {Key: "b", Vals: []api.Value{{Kind: api.List, Items: values[k]}}}}},
				Logs: [][]api.Record{records[k], {{Loops: make([]int, k)[:0]}}}})
		s := begun(t).saved(t, one)
		if first == nil {
			first = s.Files()
		}
		if !sameFiles(s.Files(), first) {
			t.Errorf("%s: the files of shot %s are %s, want %s", rules, shotTold(one), told(s.Files()), told(first))
		}
		s.loads(t, rules, shot(1, part("3"), part("0; a:[]; b:[[]]", " / =none")))
		refused(t, rules, "Save of no parts", s.Save(api.Shot{Id: 2, Parts: [][]api.Part{nil, {}, make([]api.Part, 1)[:0]}[k]}), at(2, "", api.ErrVaultPart))
	}
}

// TestThingsFarBeyondTheLimits: they are refused, and nothing panics.
func TestThingsFarBeyondTheLimits(t *testing.T) {
	deep := num(1)
	for range 1 << 15 {
		deep = api.Value{Kind: api.List, Items: []api.Value{deep}}
	}
	huge := strings.Repeat("t", 1<<20)
	s := begun(t).saved(t, wideShot(1))
	before := s.Files()
	for _, x := range []wrongPart{
		{api.Part{Pend: []api.Record{{Val: deep}}}, api.ErrValDepth},
		{api.Part{State: api.State{Cells: []api.Cell{{Vals: []api.Value{deep}}}}}, api.ErrValDepth},
		{api.Part{State: api.State{Cells: make([]api.Cell, 1<<16)}}, api.ErrValCells},
		{api.Part{State: api.State{Cells: []api.Cell{{Key: huge}}}}, api.ErrValKey},
		{api.Part{Logs: make([][]api.Record, 1<<16)}, api.ErrWireBound},
		{api.Part{Logs: [][]api.Record{make([]api.Record, 1<<16)}}, api.ErrWireBound},
		{api.Part{Pend: []api.Record{{Val: text(huge)}}}, api.ErrValText},
	} {
		refused(t, rules, "Save of much", s.Save(shot(2, part("1"), x.part)), at(2, "seg-0002-01", x.err))
	}
	refused(t, rules, "Save of many parts", s.Save(api.Shot{Id: 2, Parts: make([]api.Part, 1<<16)}), at(2, "", api.ErrVaultPart))
	if !sameFiles(s.Files(), before) {
		t.Errorf("%s: a refused Save changes the files", rules)
	}
}

// TestAnyBytes: files of any bytes under names of the vault's, as great as a disk lets them be; every call ends.
func TestAnyBytes(t *testing.T) {
	for seed := range 300 {
		d := seeded(seed)
		var files []api.File
		held := begun(t).saved(t, memoryShots(seed)[:3]...).Files()
		for _, f := range held {
			switch d.Below(6) {
			case 0:
				f.Data = held[d.Below(len(held))].Data
			case 1:
				f.Data = slices.Concat(f.Data, f.Data)
			case 2:
				f.Data = make([]byte, api.MaxFile*d.Below(2))
			case 3:
				for range d.Between(1, 3) {
					f.Data[d.Below(len(f.Data))] = byte(d.Below(256))
				}
			}
			f.Synced = d.Below(len(f.Data) + 1)
			files = append(files, f)
		}
		a, b := begun(t, files...), begun(t, files...)
		one, other := side{a.Disk, a.Vault}, side{b.Disk, model{b.Disk}}
		for _, x := range []step{loadOf(1), loadOf(2), loadOf(3), saveOf(d.shot(4)), loadOf(4), {"Prune", func(s side) answer { return answer{err: s.Prune()} }}} {
			if got, want := x.do(one), x.do(other); !sameAnswer(got, want) || !sameFiles(one.Files(), other.Files()) {
				t.Fatalf("P12.4 to P12.10: seed %d: %s over %s answers %+v, want %+v", seed, x.what, told(files), got, want)
			}
		}
	}
}

// TestVaultsAtTheSameTime: each has a disk and a goroutine of its own, and all are handed the same shots.
func TestVaultsAtTheSameTime(t *testing.T) {
	shots := memoryShots(3)
	want := begun(t).saved(t, shots...).Files()
	var all sync.WaitGroup
	for range 16 {
		s := begun(t)
		all.Go(func() {
			for _, one := range shots {
				if err := s.Save(one); err != nil {
					t.Errorf("%s: Save of %d answers %v", rules, one.Id, err)
				}
			}
			if !sameFiles(s.Files(), want) {
				t.Errorf("%s: the same shots are stored as %s and as %s", rules, told(s.Files()), told(want))
			}
		})
	}
	all.Wait()
}

// TestTheSameCallsAnswerTheSame: however the goroutines run that make the segments.
func TestTheSameCallsAnswerTheSame(t *testing.T) {
	parts := make([]api.Part, 12)
	for k := range parts {
		parts[k] = api.Part{State: wide(64-5*k, int64(k)), Pend: long(k % 3)}
	}
	var first []api.File
	for range 200 {
		s := begun(t).saved(t, shot(1, parts...), shot(2, parts...))
		if first == nil {
			first = s.Files()
		}
		if !sameFiles(s.Files(), first) {
			t.Fatalf("P12.9: the same shots are stored as %s and as %s", told(first), told(s.Files()))
		}
	}
	wrong := shot(3, parts...)
	wrong.Parts[4].State.Num, wrong.Parts[9].State.Num = -1, -1
	for range 200 {
		refused(t, "P12.7.4", "Save of two wrong parts", vault.Open(begun(t).Disk).Save(wrong), at(3, "seg-0003-04", api.ErrValNum))
	}
}
