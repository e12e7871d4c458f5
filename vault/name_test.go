package vault_test

import (
	"strings"
	"testing"

	"eddy/api"
)

// foreign gives names that are no business of a vault's, and that are nearly its own.
func foreign() []string {
	return strings.Fields(`man-0000 man-1 man-001 man-00001 man-10000 man-000a man-a001 man-0-01 man--001 man-000- man0001 man-0001- -man-0001 man-0001-0 man-0001-00 mam-0001 nan-0001 ma-0001 mann-0001 man man- 0001 -0001
		seg-0000-00 seg-0000-11 seg-0001-12 seg-0001-13 seg-0001-20 seg-0001-99 seg-0001-0 seg-0001-000 seg-0001-0a seg-0001-a0 seg-0001--0 seg-0001-0- seg-0001- seg-0001 seg-000100 seg-001-00 seg-00001-00 seg-10000-00 seg-a001-00 seg-0-01-00 seg--001-00 seg0001-00 seg000100 ses-0001-00 seg seg- out-00 a z`)
}

// foreignFiles gives a file of each of these names. They hold what a file of the shot 1 holds, whole or not, and not all of them are sure.
func foreignFiles() []api.File {
	var all []api.File
	held := handmade(shot(1, part("5")))
	for k, name := range foreign() {
		f := held[0]
		if strings.HasPrefix(name, "man") {
			f = held[1]
		}
		f.Name = name
		switch k % 5 {
		case 3:
			f.Data, f.Synced = f.Data[:5], 5
		case 4:
			f.Synced = 2
		}
		all = append(all, f)
	}
	return all
}

// left fails the test where one of the foreign files isn't as it was.
func (s store) left(t *testing.T, what string) {
	t.Helper()
	var all []api.File
	for _, f := range s.Files() {
		if numberIn(f.Name) == 0 {
			all = append(all, f)
		}
	}
	want := begun(t, foreignFiles()...).Files()
	if !sameFiles(all, want) {
		t.Errorf("P12.1: %s leaves of the foreign files %s, want %s", what, told(all), told(want))
	}
}

// TestForeignFilesAreLeftAlone: whatever is called, they lie there as they did, and nothing hangs on them.
func TestForeignFilesAreLeftAlone(t *testing.T) {
	s, alone := begun(t, foreignFiles()...), begun(t)
	s.has(t, "P12.1", 1)
	s.lacks(t, "P12.1", at(1, "man-0001", api.ErrVaultGone))
	for id := 1; id <= 7; id++ {
		s.saved(t, wideShot(id))
		s.left(t, "Save")
		alone.saved(t, wideShot(id))
		for _, one := range []store{s, alone} {
			one.has(t, "P12.1", id+1, alone.Ids()...)
			one.loads(t, "P12.1", wideShot(id))
		}
		if id == 2 || id == 5 {
			for _, one := range []store{s, alone} {
				if err := one.Prune(); err != nil {
					t.Fatalf("P12.10: Prune answers %v", err)
				}
			}
			s.left(t, "Prune")
		}
	}
	for _, f := range alone.Files() {
		if b, e := s.Read(f.Name); e != api.OK || string(b) != string(f.Data) {
			t.Errorf("P12.1: among foreign files %s is written otherwise", f.Name)
		}
	}
	if len(s.Files()) != len(alone.Files())+len(foreign()) {
		t.Errorf("P12.1: among foreign files %s stand, without them %s", s.names(), alone.names())
	}
}

// TestOnlyForeignFiles: Prune takes nothing away of them, not even where no shot is sure.
func TestOnlyForeignFiles(t *testing.T) {
	s := begun(t, foreignFiles()...)
	s.Fail(0, 1)
	if err := s.Prune(); err != nil {
		t.Errorf("P12.1: Prune of foreign files answers %v", err)
	}
	s.left(t, "Prune")
}

// changedNames gives all names that differ from one at one place: another byte, a byte more, a byte less.
func changedNames(name string) []string {
	const signs = "abcdefghijklmnopqrstuvwxyz0123456789-"
	all := []string{name}
	for k := range len(name) + 1 {
		for _, sign := range signs {
			all = append(all, name[:k]+string(sign)+name[k:])
			if k < len(name) {
				all = append(all, name[:k]+string(sign)+name[k+1:])
			}
		}
		if k < len(name) {
			all = append(all, name[:k]+name[k+1:])
		}
	}
	return all
}

// TestNames: each name, alone on the disk with no bytes, counts or doesn't: it is told by Next, and it is taken away.
func TestNames(t *testing.T) {
	met := map[bool]int{}
	for _, name := range []string{"man-0001", "man-0042", "man-9999", "man-1000", "seg-0001-00", "seg-0042-07", "seg-9999-11", "seg-0909-09", "seg-1234-10"} {
		for _, one := range changedNames(name) {
			if len(one) > 12 {
				continue
			}
			s := begun(t, api.File{Name: one})
			number := numberIn(one)
			met[number > 0]++
			if got := s.Next(); got != number+1 {
				t.Errorf("P12.1: with a file %s alone, Next answers %d, want %d", one, got, number+1)
			}
			if err := s.Prune(); err != nil || (s.names() == one) != (number == 0) {
				t.Errorf("P12.1: behind Prune of a file %s alone, %v, there lies %q", one, err, s.names())
			}
		}
	}
	if met[true] < 100 || met[false] < 1000 {
		t.Errorf("names that count or don't: %v", met)
	}
	for name, number := range map[string]int{"man-0001": 1, "man-9999": 9999, "man-0000": 0, "seg-0001-00": 1, "seg-9999-11": 9999, "seg-0001-12": 0, "seg-0000-00": 0} {
		begun(t, api.File{Name: name}).has(t, "P12.1", number+1)
	}
	for _, name := range foreign() {
		begun(t, api.File{Name: name}).has(t, "P12.1", 1)
	}
}
