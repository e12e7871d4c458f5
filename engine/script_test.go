package engine_test

import (
	"fmt"
	"testing"

	"eddy/api"
	"eddy/pen"
)

// TestAllShortScripts: all scripts of three steps, from each of some states on, in the modes by turns, held against the model.
func TestAllShortScripts(t *testing.T) {
	steps := opsOf("pick 0 0; pick 1 0; trigger; post; abort; crash; arm 30; fail 1 after 3; spoil 0 9; recover 9999; recover arm 1 5")
	from := states()
	from["up, the last part is there"] = through + "; trigger; pick 0 0; pick 1 0; post"
	from["up, the last part of a second shot"] = through + "; " + shoot + "; " + through + "; trigger; pick 0 0; pick 1 0; post"
	from["down, in a commit"] = through + "; trigger; pick 0 0; pick 1 0; post; arm 75; post"
	met := map[string]int{}
	for name, first := range from {
		mode := len(first)%3 + 1
		for row := range pen.Rows(steps, 3) {
			mode = mode%3 + 1
			g := line().in(mode)
			e, m := g.open(t), g.model(t)
			does(e, first)
			does(m, first)
			for _, op := range row {
				got, want := e.Do(op), m.Do(op)
				if got != want {
					t.Fatalf("P19.3: %s, mode %d: %s: the last answers %d, want %d", name, mode, opsTold(row), got, want)
				}
				met[fmt.Sprint(opWord(op.Kind), " ", got)]++
			}
			if why := difference(e, m); why != "" {
				t.Fatalf("P19.8 to P19.13: %s, mode %d: %s: %s", name, mode, opsTold(row), why)
			}
		}
	}
	wantCases(t, met, 100, "pick 1", "pick 2", "pick 4", "pick 11", "trigger 0", "trigger 6", "trigger 11", "post 4", "post 7", "post 9", "post 11", "abort 0", "abort 10", "abort 11",
		"crash 11", "arm 14", "arm 11", "fail 14", "fail 11", "spoil 0", "spoil 14", "recover 0", "recover 11", "recover 12")
	wantCases(t, met, 20, "post 10")
}

// TestStatus: what each of its numbers tells, in every life.
func TestStatus(t *testing.T) {
	inModes(t, "P19.8", long(), "status = up next 1", "trigger; pick 0 0; pick 1 0; post -> 6 2 2 7", "status = up under 1 next 2", "post -> 9", "status = up last 1 next 2",
		"trigger; abort; trigger; abort; trigger -> 6 10 6 10 6", "status = up under 4 last 1 next 5 aborts 2", "crash -> 11", "status = down last 1", "recover -> 12", "status = up last 1 next 2")
	// Last stays while the machine is down, and tells where it came up behind that.
	plays(t, "P19.6, P19.8", long(), through+"; "+shoot+"; "+through+"; "+shoot+" -> 1 1 "+shot+" 1 1 "+shot, "crash; spoil 1 40 -> 11 14", "status = down last 2", "recover -> 12", "status = up last 1 next 3",
		"crash -> 11", "spoil 0 40 -> 14", "status = down last 1", "recover -> 12", "status = up next 2")
}

// TestConfig: the runner's, and none while the machine is down.
func TestConfig(t *testing.T) {
	e := line().open(t)
	if c := e.Config(); len(c.States) != 2 || len(c.Lanes) != 1 || len(c.Outs) != 1 {
		t.Errorf("P19.9: the configuration is %+v", c)
	}
	does(e, "crash")
	if c := e.Config(); c.States != nil || c.Lanes != nil || c.Outs != nil {
		t.Errorf("P19.9: while the machine is down the configuration is %+v", c)
	}
}

// TestCommitted: what stands in the sure bytes of the output logs, up and down, whatever is there.
func TestCommitted(t *testing.T) {
	log := outOf(t, "\"a\" 1\n\"b\" 2\n")
	half := len(log) / 2
	for size := range len(log) + 1 {
		data := log[:size:size]
		want := map[bool]string{true: "a=1"}[size >= half]
		if size == len(log) {
			want = "a=1 | b=2"
		}
		e := plays(t, "P19.10", line().over(api.File{Name: "out-01", Data: data, Synced: size}), "outs = "+want, "crash -> 11", "outs = "+want)
		if f := e.Files()[0]; len(f.Data) != size/half*half {
			t.Errorf("P19.2: of a log of %d bytes %d are left", size, len(f.Data))
		}
	}
	// The Sync of a commit fails: the records stand, and aren't sure; a fall takes them, or leaves them.
	steps := through + "; trigger; pick 0 0; pick 1 0; post; fail 1 after 7; post -> 1 1 6 2 2 7 14 9"
	plays(t, "P19.10", line(), steps, "outs =", "files = man-0001, out-01 0/15, seg-0001-00, seg-0001-01", "crash -> 11", "outs =", "recover -> 12", "outs = a=1")
	plays(t, "P19.5, P19.10", long(), steps, "outs =", through+"; "+shoot+" -> 1 1 "+shot, "outs = a=1 | b=2", "shot 2 = 2 {2} {2 [] <a=1 | b=2>}")
	// A bit of a log is turned: what stands behind it isn't read any more.
	plays(t, "P19.10", line(), through+"; "+through+"; "+shoot+" -> 1 1 1 1 "+shot, "outs = a=1 | b=2", "spoil 1 0 -> 14", "outs =", "spoil 1 0; spoil 1 170 -> 14 14", "outs = a=1", "spoil 1 170; crash -> 14 11", "outs = a=1 | b=2")
	// Another task's log is no business of the sink's.
	plays(t, "P19.10", line().over(api.File{Name: "out-00", Data: log, Synced: len(log)}, api.File{Name: "out-10", Data: log, Synced: len(log)}), "outs =")
}

// TestSinksOfTwoDigits: the logs' names have two digits.
func TestSinksOfTwoDigits(t *testing.T) {
	wide := reads(2, "a=1", "s source 0", "e tee", "f tee", "g tee", "h tee", "k sink", "l sink", "m sink", "n sink", "o sink", "p sink", "q sink",
		"s.0 e.0", "e.0 f.0", "e.1 g.0", "e.2 h.0", "f.0 k.0", "f.1 l.0", "g.0 m.0", "g.1 n.0", "g.2 o.0", "h.0 p.0", "h.1 q.0")
	all, posts := "", ""
	for task := range 12 {
		all += fmt.Sprintf("pick %d 0;", task)
		posts += "post;"
	}
	plays(t, "P19.5, P19.10", wide, all, "trigger; "+all+posts[:len(posts)-1], "status = up last 1 next 2", "outs = a=1 / a=1 / a=1 / a=1 / a=1 / a=1 / a=1",
		"files = man-0001, out-05, out-06, out-07, out-08, out-09, out-10, out-11, seg-0001-00, seg-0001-01, seg-0001-02, seg-0001-03, seg-0001-04, seg-0001-05, seg-0001-06, seg-0001-07, seg-0001-08, seg-0001-09, seg-0001-10, seg-0001-11",
		"crash; recover -> 11 12", "status = up last 1 next 2", "outs = a=1 / a=1 / a=1 / a=1 / a=1 / a=1 / a=1",
		"trail = "+wideTrail())
}

// wideTrail gives the trail of the plan of two digits.
func wideTrail() string {
	text, marks := "up 0", ", trigger 1"
	for task := range 12 {
		text += fmt.Sprintf(", step %d.0", task)
		marks += fmt.Sprintf(", mark %d.0 1, copy %d 1, part %d 1", task, task, task)
	}
	commits := ""
	for sink := 5; sink < 12; sink++ {
		commits += fmt.Sprintf(", commit %d 1", sink)
	}
	return text + marks + ", ready 1, complete 1" + commits + ", down, up 1" + commits
}

// TestShot: what the store answers, up and halted; while the machine is down ErrDiskDown itself.
func TestShot(t *testing.T) {
	plays(t, "P19.11", long(), "shot 0 = lost 0 \"\" error 120", "shot -1 = lost -1 \"\" error 120", "shot 10000 = lost 10000 \"\" error 120", "shot 1 = lost 1 \"man-0001\" error 122", through+"; "+shoot+" -> 1 1 "+shot,
		"shot 1 = 1 {1} {1 [] <a=1>}", "shot 2 = lost 2 \"man-0002\" error 122", "crash -> 11", "shot 1 = error 100", "shot 0 = error 100", "recover; spoil 0 0 -> 12 14", "shot 1 = lost 1 \"man-0001\" error 123",
		"spoil 0 0; spoil 2 0 -> 14 14", "shot 1 = lost 1 \"seg-0001-00\" error 123")
}

// TestTrail: all lives, the runner's entries ahead of the engine's own of the same step.
func TestTrail(t *testing.T) {
	trail := "up 0, step 0.0, trigger 1, mark 0.0 1, copy 0 1, part 0 1, step 1.0, mark 1.0 1, copy 1 1, part 1 1, ready 1, complete 1, commit 1 1"
	plays(t, "P19.12", line(), "pick 0 0; trigger; pick 0 0; pick 1 0; pick 1 0; post; post -> 1 6 2 1 2 7 9", "trail = "+trail,
		"post; arm -1; spoil 99 0; recover; abort; pick 5 5; crash -> 4 0 0 0 0 0 11", "trail = "+trail+", down", "post; pick 0 0; trigger -> 11 11 11", "trail = "+trail+", down",
		"recover; trigger; abort -> 12 6 10", "trail = "+trail+", down, up 1, commit 1 1, trigger 2, abort 2",
		"pick 0 0; pick 1 0; pick 0 0 -> 2 2 1", "trail = "+trail+", down, up 1, commit 1 1, trigger 2, abort 2, mark 0.0 2, copy 0 2, part 0 2, mark 1.0 2, copy 1 2, part 1 2, step 0.0",
		"trigger; pick 0 0; pick 1 0; pick 1 0; post; fail 1; post -> 6 2 1 2 7 14 10",
		"trail = "+trail+", down, up 1, commit 1 1, trigger 2, abort 2, mark 0.0 2, copy 0 2, part 0 2, mark 1.0 2, copy 1 2, part 1 2, step 0.0, trigger 3, mark 0.0 3, copy 0 3, part 0 3, step 1.0, mark 1.0 3, copy 1 3, part 1 3, ready 3, abort 3")
}

// TestFiles: what the disk holds, sure or not, up and down.
func TestFiles(t *testing.T) {
	plays(t, "P19.13", line(), "files =", "trigger; pick 0 0; pick 1 0; post; arm 20; post -> 6 2 2 7 14 11", "files = seg-0001-00, seg-0001-01 0/2", "recover arm 0 1 -> 11", "files = seg-0001-00, seg-0001-01", "recover 1 -> 12", "files =")
}
