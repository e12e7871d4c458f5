package outlet_test

import (
	"fmt"
	"math"
	"testing"

	"eddy/api"
	"eddy/outlet"
)

func TestSinks(t *testing.T) {
	for _, sink := range []int{-1, 12, 13, 100, math.MinInt, math.MaxInt, 1 << 32} {
		d := newDisk(t, filesOf("out-00: ab+3, out-11: c"))
		o, err := outlet.Open(d, sink)
		if o != nil || errorTold(err) != "no sink" {
			t.Errorf("P15.2.1: Open(%d) answers %v, and an outlet: %v", sink, err, o != nil)
		}
		if got := filesTold(d.Files()); got != "out-00: ab+3, out-11: c" {
			t.Errorf("P15.2.1: Open(%d) changes the files to %s", sink, got)
		}
	}
	d := newDisk(t, nil)
	var want []api.File
	for sink := range 12 {
		o := opened(t, d, sink)
		l := recs("abcdefghijkl"[:sink+1])
		if err := o.Commit(0, l); err != nil {
			t.Errorf("P15.4: Commit to sink %d: %v", sink, err)
		}
		if got := errorTold(o.Commit(50, nil)); got != fmt.Sprintf("gap out-%02d", sink) {
			t.Errorf("P15, The face: a gap in the log of sink %d is told as %s", sink, got)
		}
		log := logOf(0, l)
		want = append(want, api.File{Name: nameOf(sink), Data: log, Synced: len(log)})
	}
	if got := d.Files(); !sameFiles(got, want) {
		t.Errorf("P15, Words: the files are %s, want %s", filesTold(got), filesTold(want))
	}
}

// TestOpenFinds: what stands in a file is found, all of it is sure, and nothing else is left there.
func TestOpenFinds(t *testing.T) {
	for _, c := range []struct{ files, want, letters string }{
		{"", "", ""},
		{"out-02: ab, out-04: c, out-33: x", "out-02: ab, out-04: c, out-33: x", ""},
		{"out-03:", "out-03:", ""},
		{"out-03: a", "out-03: a", "a"},
		{"out-03: abc-a", "out-03: abc-a", "abc-a"},
		{"out-03: abc+3", "out-03: abc", "abc"},
		{"out-03: abc+1 of abc", "out-03: abc", "abc"},
		{"out-03: abc+3 of abc+1", "out-03: abc", "abc"},
		{"out-03: abc+3 of ab", "out-03: abc", "abc"},
		{"out-03: abc+3 of ab+7", "out-03: abc", "abc"},
		{"out-03: abc of ab", "out-03: abc", "abc"},
		{"out-03: abc of abc+0", "out-03: abc", "abc"},
		{"out-03: abc of", "out-03: abc", "abc"},
		{"out-03: +9", "out-03:", ""},
		{"out-03: +9 of", "out-03:", ""},
		{"out-03: +9 of +4", "out-03:", ""},
		{"out-02: a+1, out-03: ab+1 of a, out-04: abc of a", "out-02: a+1, out-03: ab, out-04: abc of a", "ab"},
	} {
		plays(t, "P15.2", c.files, "open 3 = ok", fmt.Sprint("len 3 = ", len(c.letters)), "records 3 = "+c.letters, "files = "+c.want)
		// What was found is opened again as it is, without any call that changes something.
		plays(t, "P15.2", c.files, "open 3 = ok", "fail 0 1", "open 3 = ok", "probe = io", "records 3 = "+c.letters, "files = "+c.want)
		// It stands: another record clashes, and the next one comes behind it.
		if len(c.letters) > 0 {
			plays(t, "P15.2", c.files, "open 3 = ok", "commit 3 0 x = clash out-03", "commit 3 0 "+c.letters+"x = ok", "records 3 = "+c.letters+"x")
		}
		// All that stands is sure: a fall takes nothing.
		plays(t, "P15.2", c.files, "open 3 = ok", "restart", "open 3 = ok", "records 3 = "+c.letters)
	}
}

// TestCallsOfOpen: how many changing calls an Open makes, and which: the one behind them fails.
func TestCallsOfOpen(t *testing.T) {
	for _, c := range []struct {
		files string
		calls int
	}{
		{"", 0}, {"out-02: a+3 of", 0}, {"out-03:", 0}, {"out-03: abc", 0},
		{"out-03: abc+3", 1}, {"out-03: abc+3 of abc", 1}, {"out-03: abc+3 of abc+2", 1}, {"out-03: +7", 1}, {"out-03: +7 of", 1},
		{"out-03: abc of ab", 1}, {"out-03: abc of", 1}, {"out-03: abc of ab+3", 1},
		{"out-03: abc+3 of ab", 2}, {"out-03: abc+3 of", 2}, {"out-03: abc+3 of ab+5", 2},
	} {
		plays(t, "P15.2", c.files, fmt.Sprintf("fail %d 1", c.calls), "open 3 = ok", "probe = io", "probe = error 103")
		// Each of them costs one unit: a cut and a sync.
		plays(t, "P15.2", c.files, fmt.Sprintf("arm %d", c.calls), "open 3 = ok", "lay x +1 = down")
		if c.calls > 0 {
			plays(t, "P15.2", c.files, fmt.Sprintf("arm %d", c.calls-1), "open 3 = down out-03")
		}
	}
}

func TestErrorsOfOpen(t *testing.T) {
	for _, files := range []string{"", "out-03:", "out-03: abc", "out-03: abc+3 of ab"} {
		plays(t, "P15.2.2", files, "crash", "open 3 = down out-03", "open 12 = no sink", "open -1 = no sink", "files = "+files, "restart 1000 1000", "open 3 = ok")
	}
	// The cut fails: nothing is done.
	plays(t, "P15.2.3", "out-03: abc+3 of ab", "fail 0 1", "open 3 = io out-03", "files = out-03: abc+3 of ab", "open 3 = ok", "records 3 = abc", "files = out-03: abc")
	plays(t, "P15.2.3", "out-03: abc+3 of ab", "fail 0 3", "open 3 = io out-03", "probe = io", "probe = io", "probe = error 103")
	plays(t, "P15.2.3", "out-03: abc+3 of ab", "arm 0", "open 3 = down out-03", "files = out-03: abc+3 of ab", "restart 2", "open 3 = ok", "records 3 = ab", "files = out-03: ab")
	plays(t, "P15.2.3", "out-03: abc+3 of ab", "arm 0", "open 3 = down out-03", "restart 1000", "open 3 = ok", "records 3 = abc", "files = out-03: abc")
	// The sync fails: the cut stays done.
	plays(t, "P15.2.4", "out-03: abc+3 of ab", "fail 1 1", "open 3 = io out-03", "files = out-03: abc of ab", "open 3 = ok", "records 3 = abc", "files = out-03: abc")
	plays(t, "P15.2.4", "out-03: abc+3 of ab", "arm 1", "open 3 = down out-03", "files = out-03: abc of ab", "restart", "open 3 = ok", "records 3 = ab", "files = out-03: ab")
	plays(t, "P15.2.4", "out-03: abc of a", "fail 0 1", "open 3 = io out-03", "files = out-03: abc of a", "open 3 = ok", "files = out-03: abc")
	plays(t, "P15.2.4", "out-03: abc of a", "arm 0", "open 3 = down out-03", "files = out-03: abc of a", "open 3 = down out-03", "restart 3", "files = out-03: a+3", "open 3 = ok", "files = out-03: a")
	plays(t, "P15.2", "out-11: abc+3 of ab", "fail 0 1", "open 11 = io out-11", "fail 1 1", "open 11 = io out-11", "crash", "open 11 = down out-11", "open 3 = down out-03")
}

// TestExamples: those of the chapter.
func TestExamples(t *testing.T) {
	plays(t, "P15, example 1", "", "open 3 = ok", "len 3 = 0", "files =", "commit 3 0 ab = ok", "files = out-03: ab", "commit 3 1 bc = ok", "files = out-03: abc",
		"commit 3 1 c = clash out-03", "commit 3 4 = gap out-03", "commit 3 3 = ok", "records 3 = abc", "len 3 = 3")
	plays(t, "P15, example 2", "", "open 3", "fail 0 1", "commit 3 0 a = io out-03", "len 3 = 0", "records 3 =", "files =", "commit 3 0 a = ok", "len 3 = 1", "files = out-03: a")
	plays(t, "P15, example 3", "", "open 3", "fail 1 1", "commit 3 0 a = io out-03", "len 3 = 0", "files = out-03: a of", "commit 3 0 b = clash out-03", "commit 3 0 = ok", "len 3 = 1", "files = out-03: a")
	size := len(logOf(0, recs("ab")))
	plays(t, "P15, example 4", "", "open 3", "commit 3 0 ab = ok", "arm 3", "commit 3 2 c = down out-03", "files = out-03: ab+3 of ab", "restart 1000", "files = out-03: ab+3", "open 3 = ok", "len 3 = 2", "files = out-03: ab")
	plays(t, "P15, example 4", "", "open 3", "arm 3", "commit 3 0 a = down out-03", "restart 3", "open 3 = ok", "len 3 = 0", "files = out-03:")
	plays(t, "P15, example 4", "", "open 3", fmt.Sprintf("arm %d", size+2), "commit 3 0 ab = ok", "commit 3 2 c = down out-03", "files = out-03: ab")
	plays(t, "P15, example 5", "", "open 12 = no sink", "open -1 = no sink", "files =")
}
