package disk_test

import (
	"bytes"
	"slices"
	"strconv"
	"sync"
	"testing"

	"eddy/api"
	"eddy/disk"
	"eddy/pen"
)

// agree holds one call of a disk against that of the model, and what both hold behind it.
func agree(d *disk.Disk, m *model, c call) (string, bool) {
	got, want := c.of(d), c.of(m)
	if !same(got, want) {
		return "the last answers " + c.told(got) + ", want " + c.told(want), false
	}
	if got, want := d.Files(), m.Files(); !sameFiles(got, want) {
		return "behind it the files are " + filesTold(got) + ", want " + filesTold(want), false
	}
	return "", true
}

// follow holds a disk against the model, call by call, and tells where they part.
func follow(d *disk.Disk, m *model, script []call) (string, bool) {
	for k, c := range script {
		if why, well := agree(d, m, c); !well {
			return lastOf(script[:k+1]) + ": " + why, false
		}
	}
	return "", true
}

func against(t *testing.T, files []api.File, script []call) bool {
	t.Helper()
	why, well := follow(opened(t, files), modelOf(files), script)
	if !well {
		t.Errorf("P10.1 to P10.13: New(%s), %s", filesTold(files), why)
	}
	return well
}

// shortCalls gives calls of every kind, as few as tell the ways of a disk apart.
func shortCalls() []call {
	var all []call
	for _, s := range []string{"append a 7 8", "append c", "append c 9", "append A 1", "sync a", "trim a 1", "trim b 0", "remove a", "read a", "list",
		"arm 0", "arm 2", "arm -1", "fail 0 1", "fail 1 2", "fail 0 0", "crash", "restart", "restart 1", "restart 0 2", "spoil a 0"} {
		all = append(all, called(s))
	}
	return all
}

func TestAllShortScriptsAgainstTheModel(t *testing.T) {
	files := filesOf("a 1|2 3, b |4")
	for script := range pen.Rows(shortCalls(), 4) {
		if !against(t, files, script) {
			return
		}
	}
}

func TestLongScriptsAgainstTheModel(t *testing.T) {
	for seed := range 3000 {
		w := writer{pen.Seeded(seed)}
		if !against(t, w.files(), w.calls(80)) {
			return
		}
	}
}

// TestScriptsOnADiskThatIsNearlyFull: files are many, or one is nearly as great as it may be.
func TestScriptsOnADiskThatIsNearlyFull(t *testing.T) {
	for seed := range 60 {
		w := writer{pen.Seeded(seed)}
		if !against(t, counted(w.Between(395, 400)), w.calls(40)) {
			return
		}
		size := w.Between(api.MaxFile-6, api.MaxFile)
		if !against(t, filesOfOne("a", size, w.Below(size+1)), w.calls(40)) {
			return
		}
	}
}

// TestNewAgainstTheModel: files that may be and files that may not.
func TestNewAgainstTheModel(t *testing.T) {
	taken := 0
	for seed := range 5000 {
		w := writer{pen.Seeded(seed)}
		var files []api.File
		for range w.Below(6) {
			f := api.File{Name: pen.One(w.Pen, w.rightName(), w.name(), "c"+strconv.Itoa(w.Below(20))), Data: w.bytes(4)}
			f.Synced = w.Below(len(f.Data) + 1)
			if w.Below(20) == 0 {
				f.Synced = w.number(6)
			}
			files = append(files, f)
		}
		d, e := disk.New(files)
		m := modelOf(files)
		if m == nil {
			if d != nil || e != api.ErrDiskFiles {
				t.Fatalf("P10.1: New(%s) answers error %d, want %d and no disk", filesTold(files), e, api.ErrDiskFiles)
			}
			continue
		}
		if taken++; d == nil || e != api.OK || !sameFiles(d.Files(), m.Files()) {
			t.Fatalf("P10.1: New(%s) answers error %d, or other files", filesTold(files), e)
		}
	}
	if taken < 1000 || taken > 4000 {
		t.Errorf("%d of the lists that are drawn may be files, want some thousands", taken)
	}
}

// TestBehindARestart: the bytes of each file are the first ones of what it held, and the sure ones are there.
func TestBehindARestart(t *testing.T) {
	restarts, torn := 0, 0
	for seed := range 2000 {
		w := writer{pen.Seeded(seed)}
		files, script := w.files(), w.calls(60)
		d := opened(t, files)
		for k, c := range script {
			before := d.Files()
			c.of(d)
			if c.what != "restart" {
				continue
			}
			restarts++
			after := d.Files()
			if len(after) != len(before) {
				t.Fatalf("P10.14: New(%s), %s: files %s become %s", filesTold(files), lastOf(script[:k+1]), filesTold(before), filesTold(after))
			}
			for n, f := range after {
				if old := before[n]; f.Name != old.Name || !bytes.HasPrefix(old.Data, f.Data) || len(f.Data) < old.Synced || f.Synced != len(f.Data) {
					t.Fatalf("P10.14: New(%s), %s: files %s become %s", filesTold(files), lastOf(script[:k+1]), filesTold(before), filesTold(after))
				} else if len(f.Data) > old.Synced && len(f.Data) < len(old.Data) {
					torn++
				}
			}
		}
	}
	if restarts < 1000 || torn < 1000 {
		t.Errorf("of what is drawn %d calls are a Restart and %d files tear, want thousands", restarts, torn)
	}
}

// well gives of some changing calls those that answer OK on a disk of the files, with what the disk holds ahead of each and behind the last.
func well(t *testing.T, files []api.File, calls []call) (ok []call, held [][]api.File) {
	t.Helper()
	d := opened(t, files)
	held = append(held, d.Files())
	for _, c := range calls {
		if c.of(d).err == api.OK {
			ok = append(ok, c)
			held = append(held, d.Files())
		}
	}
	return ok, held
}

// fallen gives what a disk holds that falls within a call with so many units left.
func fallen(t *testing.T, files []api.File, c call, units int) []api.File {
	t.Helper()
	if c.what != "append" {
		return files
	}
	d := opened(t, files)
	if e := d.Append(c.name, c.data[:units]); e != api.OK {
		t.Fatalf("P10.3: New(%s), %v: error %d", filesTold(files), c, e)
	}
	return d.Files()
}

// TestEveryUnitIsAPlaceToFall: the same calls behind Arm of each number of units.
func TestEveryUnitIsAPlaceToFall(t *testing.T) {
	for seed := range 400 {
		w := writer{pen.Seeded(seed)}
		files := w.files()
		var calls []call
		for range w.Between(1, 10) {
			if c := w.changingCall(); len(c.data) < 100 {
				calls = append(calls, c)
			}
		}
		calls, held := well(t, files, calls)
		cost := 0
		for _, c := range calls {
			cost += c.cost()
		}
		for units := range cost + 3 {
			d := opened(t, files)
			if w.Below(2) == 0 { // a disk that came up again is as good as a new one
				d = opened(t, nil)
				d.Arm(0)
				d.Append("a", nil)
				d.Restart(nil)
				d.Remove("a")
				for _, f := range files {
					d.Append(f.Name, f.Data[:f.Synced])
					d.Sync(f.Name)
					d.Append(f.Name, f.Data[f.Synced:])
				}
			}
			fallsAsPromised(t, d, calls, held, units)
		}
	}
}

func fallsAsPromised(t *testing.T, d *disk.Disk, calls []call, held [][]api.File, units int) {
	t.Helper()
	d.Arm(units)
	left, down := units, false
	want := held[0]
	for k, c := range calls {
		e := c.of(d).err
		switch {
		case !down && c.cost() <= left:
			left -= c.cost()
			want = held[k+1]
		case !down:
			want = fallen(t, held[k], c, left)
			down = true
		}
		if down && e != api.ErrDiskDown || !down && e != api.OK {
			t.Fatalf("P10.15: files %s, Arm(%d), %v: call %d answers error %d", filesTold(held[0]), units, calls, k, e)
		}
		if got := d.Files(); !sameFiles(got, want) {
			t.Fatalf("P10.8: files %s, Arm(%d), %v: behind call %d the files are %s, want %s", filesTold(held[0]), units, calls, k, filesTold(got), filesTold(want))
		}
	}
	if _, e := d.List(); down != (e == api.ErrDiskDown) {
		t.Fatalf("P10.15: files %s, Arm(%d), %v: List answers error %d", filesTold(held[0]), units, calls, e)
	}
}

// TestManyDisksDoNotTouchOneAnother: all are made of one list of files, and their calls come in turn.
func TestManyDisksDoNotTouchOneAnother(t *testing.T) {
	for seed := range 40 {
		w := writer{pen.Seeded(seed)}
		files := w.files()
		disks, models := make([]*disk.Disk, 12), make([]*model, 12)
		for k := range disks {
			disks[k], models[k] = opened(t, files), modelOf(files)
		}
		for range 600 {
			k, c := w.Below(len(disks)), w.call()
			if why, well := agree(disks[k], models[k], c); !well {
				t.Fatalf("P10, Rules for all calls: seed %d: disk %d, %v: %s", seed, k, c, why)
			}
		}
		for k := range disks {
			if got, want := disks[k].Files(), models[k].Files(); !sameFiles(got, want) {
				t.Fatalf("P10, Rules for all calls: seed %d: disk %d holds %s, want %s", seed, k, filesTold(got), filesTold(want))
			}
		}
	}
}

// TestDisksAtTheSameTime: each of them has a goroutine of its own.
func TestDisksAtTheSameTime(t *testing.T) {
	var all sync.WaitGroup
	files := filesOf("a 1 2|3, b |4, z9 5|")
	for seed := range 32 {
		d, m, w := opened(t, files), modelOf(files), writer{pen.Seeded(seed)}
		all.Go(func() {
			if why, well := follow(d, m, w.calls(200)); !well {
				t.Errorf("P10, Rules for all calls: disk %d, %s", seed, why)
			}
		})
	}
	all.Wait()
}

// TestTheSameCallsAnswerTheSame: many files, so that an order by chance would be seen.
func TestTheSameCallsAnswerTheSame(t *testing.T) {
	for seed := range 20 {
		w := writer{pen.Seeded(seed)}
		files, keep := counted(40), w.numbers(w.Between(1, 60), 4)
		for k := range files {
			files[k].Data = w.bytes(5)
		}
		var first []api.File
		for range 6 {
			d := opened(t, files)
			d.Restart(keep)
			got := d.Files()
			if first == nil {
				first = got
			}
			if !sameFiles(got, first) || !slices.IsSortedFunc(got, func(f, g api.File) int { return bytes.Compare([]byte(f.Name), []byte(g.Name)) }) {
				t.Fatalf("P10.11, P10.13: seed %d: the same calls answer %s and %s", seed, filesTold(first), filesTold(got))
			}
		}
	}
}
