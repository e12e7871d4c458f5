package disk_test

import (
	"slices"
	"strconv"
	"testing"

	"eddy/api"
)

func TestAppend(t *testing.T) {
	plays(t, "P10.3", "", "append a 1 2 3 = ok", "files = a |1 2 3", "append a 4 = ok", "files = a |1 2 3 4", "append a = ok", "files = a |1 2 3 4")
	plays(t, "P10.3", "a 1|2", "append a 3 4 = ok", "files = a 1|2 3 4", "read a = ok 1 2 3 4")
	plays(t, "P10.3", "a 1 2|, b |", "append a 3 = ok", "append b 3 = ok", "files = a 1 2|3, b |3")
	plays(t, "P10.3: no data makes the file all the same", "b 1|", "append a = ok", "append c = ok", "files = a |, b 1|, c |", "read a = ok", "list = ok a b c")
	plays(t, "P10.3: a file that is gone is made anew", "a 1|2", "remove a = ok", "append a 7 = ok", "files = a |7")
}

func TestAppendUpToMaxFile(t *testing.T) {
	for _, sizes := range [][]int{{65536}, {65535, 1}, {1, 65535}, {32768, 32768}, {0, 65536}, {60000, 5000, 536}} {
		d := opened(t, nil)
		at := 0
		for _, size := range sizes {
			if e := d.Append("a", filled(byte(size), size)); e != api.OK {
				t.Errorf("P10.3: Append of %d bytes to %d: error %d", size, at, e)
			}
			at += size
		}
		before := d.Files()
		for _, size := range []int{1, 2, 65536, 65537} {
			if e := d.Append("a", filled(1, size)); e != api.ErrDiskFull {
				t.Errorf("P10.2: Append of %d bytes to 65536: error %d", size, e)
			}
		}
		if e := d.Append("a", nil); e != api.OK {
			t.Errorf("P10.2: Append of no bytes to 65536: error %d", e)
		}
		if got := d.Files(); !sameFiles(got, before) || len(got[0].Data) != 65536 {
			t.Errorf("P10.2: a file of 65536 bytes is changed: %s", filesTold(got))
		}
	}
	for _, size := range []int{65537, 65538, 1 << 17} {
		d := opened(t, filesOf("b 1|2"))
		if e := d.Append("a", filled(1, size)); e != api.ErrDiskFull {
			t.Errorf("P10.2: Append of %d bytes to a new file: error %d", size, e)
		}
		if e := d.Append("b", filled(1, size-2)); e != api.ErrDiskFull {
			t.Errorf("P10.2: Append of %d bytes to 2: error %d", size-2, e)
		}
		goesOn(t, "P10.2: a full disk changes nothing", d, "files = b 1|2")
	}
	d := opened(t, filesOfOne("a", 65536, 65536))
	goesOn(t, "P10.2", d, "append a 1 = full", "trim a 65535 = ok", "append a 1 2 = full", "append a 1 = ok", "append a 1 = full", "remove a = ok", "append a 1 = ok")
}

func TestAppendUpToMaxFiles(t *testing.T) {
	d := opened(t, counted(399))
	goesOn(t, "P10.2", d, "append x 1 = ok", "append y 1 = full", "append y = full", "append x 2 = ok", "append f-0 = ok", "append f-398 3 = ok", "append f-399 3 = full",
		"read y = none", "read x = ok 1 2", "remove f-7 = ok", "append y = ok", "append f-7 = full", "remove x = ok", "append x = ok", "append f-7 = full")
	if got := d.Files(); len(got) != 400 {
		t.Errorf("P10.2: the disk has %d files, want 400", len(got))
	}
	d = opened(t, nil)
	for k := range 402 {
		want := api.OK
		if k >= 400 {
			want = api.ErrDiskFull
		}
		if e := d.Append("n"+strconv.Itoa(k), nil); e != want {
			t.Errorf("P10.2: Append that makes file number %d: error %d, want %d", k+1, e, want)
		}
	}
	if got, _ := d.List(); len(got) != 400 {
		t.Errorf("P10.2: the disk has %d files, want 400", len(got))
	}
	d.Restart(nil)
	goesOn(t, "P10.11: files without bytes stay", d, "append y = full", "append n3 = ok")
}

func TestSync(t *testing.T) {
	plays(t, "P10.4", "a 1|2 3, b |4", "sync a = ok", "files = a 1 2 3|, b |4", "sync a = ok", "files = a 1 2 3|, b |4", "append a 5 = ok", "files = a 1 2 3|5, b |4")
	plays(t, "P10.4", "a |", "sync a = ok", "files = a |", "sync b = none", "files = a |")
	plays(t, "P10.4", "a |1 2", "sync a = ok", "crash", "restart", "files = a 1 2|")
}

// TestTrim: below 0, at 0, within what is sure, at its end, within what is unsure, at the size and above it.
func TestTrim(t *testing.T) {
	for size, want := range map[int]string{
		-1 << 63: "a |, b 9|9", -5: "a |, b 9|9", -1: "a |, b 9|9", 0: "a |, b 9|9", 1: "a 1|, b 9|9", 2: "a 1 2|, b 9|9", 3: "a 1 2|3, b 9|9",
		4: "a 1 2|3 4, b 9|9", 5: "a 1 2|3 4, b 9|9", 1000: "a 1 2|3 4, b 9|9", 1<<63 - 1: "a 1 2|3 4, b 9|9",
	} {
		d := plays(t, "P10.5", "a 1 2|3 4, b 9|9", "trim a "+strconv.Itoa(size)+" = ok", "files = "+want)
		d.Restart([]int{9})
		if got := d.Files(); !slices.Equal(got[0].Data, filesOf(want)[0].Data) {
			t.Errorf("P10.5: Trim(a, %d) isn't sure at once: behind Restart a has %s", size, bytesTold(got[0].Data))
		}
	}
	plays(t, "P10.5", "a |", "trim a 0 = ok", "trim a 1 = ok", "trim a -1 = ok", "files = a |", "trim b 0 = none", "files = a |")
	plays(t, "P10.5: what is cut off doesn't come back", "a 1 2 3|4", "trim a 1 = ok", "append a 8 = ok", "files = a 1|8", "restart 5", "files = a 1 8|")
	plays(t, "P10.5: of the bytes that stay none gets sure", "a |1 2 3", "trim a 2 = ok", "files = a |1 2", "restart", "files = a |")
}

func TestRemove(t *testing.T) {
	plays(t, "P10.6", "a 1|2, b 3|", "remove a = ok", "files = b 3|", "list = ok b", "read a = none", "remove a = none", "sync a = none", "trim a 0 = none", "restart 9", "files = b 3|")
	plays(t, "P10.6", "a |", "remove a = ok", "files =", "list = ok", "remove a = none")
	plays(t, "P10.6", "a 1|, aa 2|, a- 3|", "remove a = ok", "files = a- 3|, aa 2|")
}

func TestReadAndList(t *testing.T) {
	plays(t, "P10.7", "b 1|2, a |, c 3 4|", "read a = ok", "read b = ok 1 2", "read c = ok 3 4", "read d = none", "list = ok a b c", "files = a |, b 1|2, c 3 4|")
	plays(t, "P10.7", "", "list = ok", "read a = none", "files =")
}

// TestEachErrorAheadOfThoseBehindIt: where two apply, the one that P10.2 names first is answered.
func TestEachErrorAheadOfThoseBehindIt(t *testing.T) {
	plays(t, "P10.2: the name ahead of the machine that is down", "a 1|", "crash", "append A 1 = name", "sync A = name", "trim A 0 = name", "remove A = name", "read A = name",
		"append a 1 = down", "sync a = down", "trim a 0 = down", "remove a = down", "read a = down", "list = down")
	plays(t, "P10.2: the name ahead of Fail's rig", "a 1|", "fail 0 1", "append A 1 = name", "sync A = name", "trim A 0 = name", "remove A = name", "read A = name", "sync a = io", "sync a = ok")
	plays(t, "P10.2: the name ahead of Arm's rig", "a 1|", "arm 0", "append A 1 = name", "sync A = name", "sync a = down")
	plays(t, "P10.2: the machine that is down ahead of the file that isn't there", "a 1|", "crash", "sync b = down", "trim b 0 = down", "remove b = down", "read b = down", "append b 1 = down", "files = a 1|")
	plays(t, "P10.2: Fail's rig ahead of the file that isn't there", "", "fail 0 3", "sync b = io", "trim b 0 = io", "remove b = io", "sync b = none", "trim b 0 = none", "remove b = none")
	plays(t, "P10.2: Fail's rig ahead of Arm's", "a 1|", "arm 0", "fail 0 5", "sync a = io", "append a 1 = io", "trim a 0 = io", "remove a = io", "append b = io", "sync a = down")
	plays(t, "P10.2: the file that isn't there ahead of Arm's rig", "a 1|", "arm 0", "sync b = none", "trim b 0 = none", "remove b = none", "read b = none", "read a = ok 1", "list = ok a", "sync a = down")
	d := opened(t, counted(400))
	goesOn(t, "P10.2: a full disk ahead of Arm's rig, and behind Fail's", d, "arm 0", "append x 1 = full", "append x = full", "fail 0 1", "append x 1 = io", "append x 1 = full", "crash", "append x 1 = down")
	d = opened(t, filesOfOne("a", 65536, 0))
	goesOn(t, "P10.2: a full file ahead of Arm's rig, and behind Fail's", d, "arm 0", "append a 1 = full", "fail 0 1", "append a 1 = io", "append a 1 = full", "crash", "append a 1 = down")
}

// TestAfterAnErrorNothingHasChanged: neither the files nor the units that are left.
func TestAfterAnErrorNothingHasChanged(t *testing.T) {
	d := opened(t, append(counted(399), filesOfOne("z", 65536, 4)...))
	before := d.Files()
	d.Arm(1)
	goesOn(t, "P10.2", d, "append b 1 = full", "append z 1 = full", "append B 1 = name", "sync b = none", "trim b 0 = none", "remove b = none", "read b = none", "fail 0 4", "append z = io", "sync z = io", "trim z 0 = io", "remove z = io")
	if got := d.Files(); !sameFiles(got, before) {
		t.Errorf("P10.2: calls that answer errors change the files")
	}
	goesOn(t, "P10.2: an error costs no units", d, "sync f-0 = ok", "sync f-0 = down")
}
