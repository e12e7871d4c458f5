package vault_test

import (
	"fmt"
	"slices"
	"strings"
	"testing"

	"eddy/api"
)

// pruned takes away what isn't needed; it must answer nil.
func (s store) pruned(t *testing.T) store {
	t.Helper()
	if err := s.Prune(); err != nil {
		t.Fatalf("P12.10: Prune over %s answers %v", told(s.Files()), err)
	}
	return s
}

// ranged gives the names of segments of task 0, from one shot to another.
func ranged(from, to int) string {
	var all []string
	for id := from; id <= to; id++ {
		all = append(all, seg(id, 0))
	}
	return strings.Join(all, " ")
}

// TestPruneKeepsTwo: of each number of shots the two newest ones, and the segments that lie below theirs.
func TestPruneKeepsTwo(t *testing.T) {
	for _, x := range []struct {
		shots int
		left  string
	}{
		{0, ""},
		{1, "man-0001 " + ranged(1, 1)},
		{2, "man-0001 man-0002 " + ranged(1, 2)},
		{3, "man-0002 man-0003 " + ranged(1, 3)},
		{5, "man-0004 man-0005 " + ranged(1, 5)},
		{6, "man-0005 man-0006 " + ranged(1, 6)},
		{7, "man-0006 man-0007 " + ranged(6, 7)},
		{8, "man-0007 man-0008 " + ranged(6, 8)},
		{11, "man-0010 man-0011 " + ranged(6, 11)},
		{12, "man-0011 man-0012 " + ranged(11, 12)},
	} {
		s := begun(t)
		for id := 1; id <= x.shots; id++ {
			s.saved(t, wideShot(id))
		}
		s.pruned(t).lies(t, fmt.Sprint("P12.10, ", x.shots, " shots"), x.left)
		for id := max(1, x.shots-1); id <= x.shots; id++ {
			s.loads(t, "P12.10", wideShot(id))
		}
		before := s.Files()
		s.Fail(0, 1)
		if s.pruned(t); !sameFiles(s.Files(), before) {
			t.Errorf("P12.10: a second Prune takes something away: %s becomes %s", told(before), told(s.Files()))
		}
	}
}

// TestPruneByTask: a base may be needed for one task and not for another.
func TestPruneByTask(t *testing.T) {
	s := begun(t)
	for id := 1; id <= 4; id++ {
		s.saved(t, shot(id, part(fmt.Sprint(id)), api.Part{State: wide(20, int64(id))}, part("0")))
	}
	s.saved(t, shot(6, part("6")))
	s.pruned(t).lies(t, "P12.10", "man-0004 man-0006 seg-0001-01 seg-0002-01 seg-0003-01 seg-0004-00 seg-0004-01 seg-0004-02 seg-0006-00")
}

// unsureAt gives the files with so many bytes of one of them, its last ones, unsure.
func unsureAt(files []api.File, name string, unsure int) []api.File {
	all := slices.Clone(files)
	for k := range all {
		if all[k].Name == name {
			all[k].Synced = max(0, len(all[k].Data)-unsure)
		}
	}
	return all
}

// TestPruneKeepsSureOnes: a shot that is complete and not sure goes, whichever of its files isn't sure.
func TestPruneKeepsSureOnes(t *testing.T) {
	files := begun(t).saved(t, wideShot(1), wideShot(2), wideShot(3), wideShot(4)).Files()
	for _, x := range []struct{ unsure, left string }{
		{"man-0004", "man-0002 man-0003 " + ranged(1, 3)},
		{"seg-0004-00", "man-0002 man-0003 " + ranged(1, 3)},
		{"man-0003", "man-0002 man-0004 " + ranged(1, 4)},
		{"seg-0003-00", "man-0001 man-0002 " + ranged(1, 2)},
		{"seg-0002-00", "man-0001 " + ranged(1, 1)},
		{"seg-0001-00", ""},
		{"man-0001", "man-0003 man-0004 " + ranged(1, 4)},
	} {
		for _, unsure := range []int{1, 9, 1 << 20} {
			s := begun(t, unsureAt(files, x.unsure, unsure)...)
			s.has(t, "P12.6, "+x.unsure+" isn't sure", 5, 1, 2, 3, 4)
			s.pruned(t).lies(t, "P12.10, "+x.unsure+" isn't sure", x.left)
		}
	}
}

// TestPruneTakesWhatNeverGotWhole: segments without a manifest, manifests without segments, torn files.
func TestPruneTakesWhatNeverGotWhole(t *testing.T) {
	whole := begun(t).saved(t, wideShot(3), wideShot(5)).Files()
	left := "man-0003 man-0005 seg-0003-00 seg-0005-00"
	for _, more := range []api.File{
		{Name: "man-0001"}, {Name: "man-0004", Data: []byte{1}}, {Name: "man-9999", Data: []byte{1}, Synced: 1}, {Name: "seg-0001-00"}, {Name: "seg-0003-01"}, {Name: "seg-0005-11", Data: []byte{1}, Synced: 1},
		handmade(shot(9, part("1")))[0], handmade(shot(9, part("1")))[1], handmade(shot(4, part("1")))[0],
	} {
		begun(t, append(slices.Clone(whole), more)...).pruned(t).lies(t, "P12.10, and a file "+more.Name, left)
		begun(t, more).pruned(t).lies(t, "P12.10, a file "+more.Name+" alone", "")
	}
	// A newer one that has lost its base is none; what is kept then is an older one.
	s := begun(t).saved(t, wideShot(1), shot(2, part("2")), wideShot(3))
	s.Spoil("seg-0003-00", 70)
	s.pruned(t).lies(t, "P12.10", "man-0001 man-0002 seg-0001-00 seg-0002-00")
}

// TestEachRemoveFails: the files go in their order by name, each by one call; the first that fails ends it.
func TestEachRemoveFails(t *testing.T) {
	s := begun(t, api.File{Name: "a"}, api.File{Name: "mao"}, api.File{Name: "seg-0001-12"}, api.File{Name: "z"})
	s.saved(t, shot(1, part("1"), part("2")), shot(2, part("1")), wideShot(3), wideShot(4), wideShot(9))
	s.Append("seg-0004-03", []byte{1})
	going := strings.Fields("man-0001 man-0002 man-0003 seg-0001-00 seg-0001-01 seg-0002-00 seg-0004-03")
	for call := range len(going) + 1 {
		one := s.again(t)
		one.Fail(call, 1)
		err := one.Prune()
		if call == len(going) {
			if err != nil || one.Sync("a") != api.ErrDiskIO {
				t.Errorf("P12.10: Prune makes another number of calls than %d, or answers %v", call, err)
			}
		} else {
			refused(t, "P12.10", fmt.Sprint("Prune whose call ", call, " fails"), err, at(0, going[call], api.ErrDiskIO))
		}
		want := slices.DeleteFunc(s.Files(), func(f api.File) bool { return slices.Contains(going[:call], f.Name) })
		if got := one.Files(); !sameFiles(got, want) {
			t.Errorf("P12.10: behind call %d the files are %s, want %s", call, told(got), told(want))
		}
		one.again(t).pruned(t).lies(t, "P12.10", "a man-0004 man-0009 mao seg-0001-12 seg-0003-00 seg-0004-00 seg-0009-00 z")
	}
}

// TestPruneWhileTheMachineIsDown: also where there would be nothing to take away.
func TestPruneWhileTheMachineIsDown(t *testing.T) {
	for _, files := range [][]api.File{nil, begun(t).saved(t, wideShot(1), wideShot(2), wideShot(3)).Files()} {
		s := begun(t, files...)
		s.Crash()
		refused(t, "P12.10", "Prune while the machine is down", s.Prune(), at(0, "", api.ErrDiskDown))
		if !sameFiles(s.Files(), files) {
			t.Errorf("P12.10: Prune changes the files while the machine is down")
		}
	}
	// Where it falls within Prune, the file is told.
	s := begun(t).saved(t, wideShot(1), wideShot(2), wideShot(3))
	s.Arm(0)
	refused(t, "P12.10", "Prune within which the machine falls", s.Prune(), at(0, "man-0001", api.ErrDiskDown))
}

// TestTheThirdExample: six shots of one part, of whose cells one changes each time.
func TestTheThirdExample(t *testing.T) {
	s := begun(t)
	for id := 1; id <= 6; id++ {
		wantBases(t, "P12.8", s.saves(t, wideShot(id)), []int{0, 1, 2, 3, 4, 0}[id-1])
	}
	s.pruned(t).lies(t, "P12.10", "man-0005 man-0006 "+ranged(1, 6))
	s.has(t, "P12.10", 7, 5, 6)
}
