package disk_test

import (
	"math"
	"slices"
	"strconv"
	"strings"
	"testing"

	"eddy/api"
	"eddy/disk"
)

func refused(t *testing.T, what string, files []api.File) {
	t.Helper()
	if d, e := disk.New(files); d != nil || e != api.ErrDiskFiles {
		t.Errorf("P10.1: New of %s answers a disk: %v, error %d, want none and %d", what, d != nil, e, api.ErrDiskFiles)
	}
}

// holds asks a disk for its files by every call that tells them.
func holds(t *testing.T, promise string, d *disk.Disk, want []api.File) {
	t.Helper()
	if got := d.Files(); !sameFiles(got, want) {
		t.Errorf("%s: Files answers %s, want %s", promise, filesTold(got), filesTold(want))
	}
	var names []string
	for _, f := range want {
		names = append(names, f.Name)
		if got, e := d.Read(f.Name); e != api.OK || !slices.Equal(got, f.Data) {
			t.Errorf("%s: Read(%q) answers %s, error %d, want %s", promise, f.Name, bytesTold(got), e, bytesTold(f.Data))
		}
	}
	if got, e := d.List(); e != api.OK || !slices.Equal(got, names) {
		t.Errorf("%s: List answers %q, error %d, want %q", promise, got, e, names)
	}
}

func TestNewTakesFilesInAnyOrder(t *testing.T) {
	for _, c := range [][2]string{
		{"", ""},
		{"a |", "a |"},
		{"b 1|2, a |, ab 3|", "a |, ab 3|, b 1|2"},
		{"a 1 2 3|, b |1 2 3", "a 1 2 3|, b |1 2 3"},
	} {
		holds(t, "P10.1", opened(t, filesOf(c[0])), filesOf(c[1]))
	}
	holds(t, "P10.1", opened(t, []api.File{}), nil)
}

// TestTheOrderOfTheFiles: byte by byte, a hyphen ahead of digits, these ahead of letters, a name ahead of those that it begins.
func TestTheOrderOfTheFiles(t *testing.T) {
	rising := strings.Fields("- -- -0 -a 0 0- 00 0a 1 10 2 9 9z a a- a-a a-aa a0 a9 aa aaaaaaaaaaa aaaaaaaaaaaa aaaaaaaaaaab ab b z z- zz zzzzzzzzzzzz")
	var files []api.File
	for k, name := range rising {
		files = append(files, api.File{Name: name, Data: []byte{byte(k)}})
	}
	turned := slices.Clone(files)
	slices.Reverse(turned)
	for step := 1; step < len(files); step += 2 {
		var mixed []api.File
		for k := range files {
			if at := k * step % len(files); !slices.ContainsFunc(mixed, func(f api.File) bool { return f.Name == turned[at].Name }) {
				mixed = append(mixed, turned[at])
			}
		}
		want := slices.DeleteFunc(slices.Clone(files), func(f api.File) bool {
			return !slices.ContainsFunc(mixed, func(g api.File) bool { return g.Name == f.Name })
		})
		holds(t, "P10.7, P10.13", opened(t, mixed), want)
		d := opened(t, nil)
		for _, f := range mixed {
			d.Append(f.Name, f.Data)
		}
		holds(t, "P10.7, P10.13", d, want)
	}
}

func TestNewRefuses(t *testing.T) {
	refused(t, "a file that has one sure byte more than bytes", filesOfOne("a", 3, 4))
	refused(t, "a file that has no bytes and a sure one", filesOfOne("a", 0, 1))
	refused(t, "a file that has fewer sure bytes than none", filesOfOne("a", 3, -1))
	refused(t, "a file that has no bytes and fewer sure ones", filesOfOne("a", 0, -1))
	refused(t, "a file with the greatest Synced", filesOfOne("a", 3, math.MaxInt))
	refused(t, "a file with the least Synced", filesOfOne("a", 3, math.MinInt))
	refused(t, "a file of a byte more than MaxFile", filesOfOne("a", 65537, 0))
	refused(t, "a file of a byte more than MaxFile, all sure", filesOfOne("a", 65537, 65537))
	refused(t, "two files of one name", filesOf("a |, a |"))
	refused(t, "two files of one name and of other bytes", filesOf("a 1|, a |2"))
	refused(t, "two files of one name with others between", filesOf("b |, a |, c |, d |, a |"))
	refused(t, "the same file twice at the end", filesOf("a |, b |, b |"))
	refused(t, "401 files", counted(401))
	refused(t, "1000 files", counted(1000))
	refused(t, "401 files of one name", slices.Repeat(filesOf("a |"), 401))
	refused(t, "a wrong file behind right ones", filesOf("a 1|, b |2, C |"))
	refused(t, "a wrong file ahead of right ones", filesOf("C |, a 1|, b |2"))
}

func filesOfOne(name string, size, sure int) []api.File {
	return []api.File{{Name: name, Data: filled(7, size), Synced: sure}}
}

func TestNewAtItsBounds(t *testing.T) {
	for _, sure := range []int{0, 1, 2, 3} {
		holds(t, "P10.1", opened(t, filesOfOne("a", 3, sure)), filesOfOne("a", 3, sure))
	}
	for _, sure := range []int{0, 1, 65535, 65536} {
		holds(t, "P10.1", opened(t, filesOfOne("a", 65536, sure)), filesOfOne("a", 65536, sure))
	}
	files := counted(400)
	d := opened(t, files)
	slices.SortFunc(files, func(a, b api.File) int { return strings.Compare(a.Name, b.Name) })
	holds(t, "P10.1", d, files)
}

// nameCases gives names that may be and names that may not.
func nameCases() (right, wrong []string) {
	right = []string{"a", "z", "0", "9", "-", "--", "az09-", "man-0001", "seg-0001-00", "abcdefghijkl", "123456789012", "------------", "-a", "a-"}
	wrong = []string{"", "abcdefghijklm", "1234567890123", "-------------", "A", "Z", "a b", " a", "a ", "a\x00", "\x00", "\x00a", "a\n", "a.b", "a/b", "a_b", "é", "aé", "a\xff", "a\xe1", strings.Repeat("a", 1<<16), "abcdefghijkl\x00", "abcdefghijk\x00"}
	for b := range 256 {
		c := string([]byte{byte(b)})
		for _, s := range []string{c, c + "a", "a" + c, "a" + c + "a", c + "bcdefghijkl", "abcdefghijk" + c, "abcde" + c + "ghijkl"} {
			if strings.Contains("abcdefghijklmnopqrstuvwxyz0123456789-", c) {
				right = append(right, s)
			} else {
				wrong = append(wrong, s)
			}
		}
	}
	return right, wrong
}

func TestNames(t *testing.T) {
	right, wrong := nameCases()
	for _, name := range right {
		files := []api.File{{Name: name, Data: []byte{1, 2}, Synced: 1}}
		holds(t, "P10.1", opened(t, files), files)
		d := opened(t, nil)
		if e := d.Append(name, []byte{1, 2}); e != api.OK {
			t.Errorf("P10.2: Append to %q: error %d", name, e)
		}
		for _, what := range []string{"sync", "trim", "read", "remove"} {
			if a := (call{what: what, name: name, nums: []int{1}}).of(d); a.err != api.OK {
				t.Errorf("P10.2: %s of %q: error %d", what, name, a.err)
			}
		}
	}
	for _, name := range wrong {
		refused(t, "a file of the name "+strconv.Quote(name), []api.File{{Name: name}})
		for _, down := range []bool{false, true} {
			d := opened(t, filesOf("a 1|2, abcdefghijkl 3|, 123456789012 4|"))
			d.Fail(0, 1)
			if down {
				d.Crash()
			}
			before := d.Files()
			for _, what := range []string{"append", "sync", "trim", "remove", "read", "spoil"} {
				a := call{what: what, name: name, nums: []int{0}, data: []byte{5}}.of(d)
				if what != "spoil" && a.err != api.ErrDiskName || a.ok || len(a.data) > 0 {
					t.Errorf("P10.2, P10.12: %s of %q answers error %d, %v, %v", what, name, a.err, a.ok, a.data)
				}
			}
			if !sameFiles(before, d.Files()) {
				t.Errorf("P10.2: calls with the name %q change the files", name)
			}
			if e := d.Sync("a"); !down && e != api.ErrDiskIO {
				t.Errorf("P10.2: calls with the name %q count for Fail's rig: the next answers error %d", name, e)
			}
		}
	}
}

// TestANewDiskIsUpWithoutRigs: also where the machine of another disk is down.
func TestANewDiskIsUpWithoutRigs(t *testing.T) {
	old := plays(t, "P10.10", "a 1|2", "crash", "read a = down")
	d := opened(t, old.Files())
	goesOn(t, "P10.1", d, "files = a 1|2", "read a = ok 1 2", "append a 3 = ok", "sync a = ok", "append b = ok", "trim a 2 = ok", "remove b = ok", "files = a 1 2|")
}
