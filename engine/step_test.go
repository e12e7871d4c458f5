package engine_test

import (
	"fmt"
	"math"
	"slices"
	"strings"
	"testing"

	"eddy/api"
	"eddy/engine"
)

// all writes everything that a machine tells.
func all(m machine) string {
	text := ""
	for _, q := range []string{"status", "config", "outs", "trail", "files", "shot 0", "shot 1", "shot 2", "shot 3"} {
		text += q + " = " + asked(m, q) + "\n"
	}
	for _, f := range m.Files() {
		text += fmt.Sprintf("%s: %x\n", f.Name, f.Data)
	}
	return text
}

// odd gives numbers at which something might go wrong.
func odd() []int {
	return []int{math.MinInt, -1 << 31, -2, -1, 0, 1, 2, 3, 4, 11, 12, 13, 100, 9999, 10000, 1 << 31, math.MaxInt - 1, math.MaxInt}
}

// states gives the steps that lead line to each of the states in which a step can find an engine.
func states() map[string]string {
	return map[string]string{
		"up, at the beginning":  "",
		"up, a record is there": "pick 0 0",
		"up, one is under way":  "pick 0 0; trigger",
		"up, one part is there": "pick 0 0; trigger; pick 0 0",
		"up, one was stored":    through + "; " + shoot,
		"up, all was read":      "pick 0 0; pick 0 0; pick 1 0; pick 1 0",
		"down":                  "crash",
		"down, one was stored":  through + "; " + shoot + "; crash",
	}
}

// TestKindsThatAreNone: they change nothing, whatever their numbers are: nothing, while the machine is up; down, while it is down.
func TestKindsThatAreNone(t *testing.T) {
	kinds := []int{math.MinInt, -9, -1, 0, 10, 11, 14, 1 << 31, math.MaxInt}
	for name, steps := range states() {
		e := line().open(t)
		does(e, steps)
		before := all(e)
		for _, kind := range append(kinds, api.OpRecover) {
			want := api.DidNothing
			if strings.HasPrefix(name, "down") {
				if want = api.DidDown; kind == api.OpRecover {
					continue
				}
			}
			for _, n := range odd() {
				op := api.Op{Kind: kind, A: n, B: -n, Keep: []int{n, 7}}
				if did := e.Do(op); did != want || all(e) != before {
					t.Fatalf("P19.3: %s: %s answers %d, want %d; ahead of it\n%sbehind it\n%s", name, opTold(op), did, want, before, all(e))
				}
			}
		}
	}
}

// TestWhileDown: every step but recover and spoil answers down and changes nothing.
func TestWhileDown(t *testing.T) {
	for name, steps := range states() {
		e := line().open(t)
		if does(e, steps); e.Status().Up {
			does(e, "crash")
		}
		before := all(e)
		for kind := api.OpPick; kind < api.OpSpoil; kind++ {
			for _, n := range odd() {
				for _, m := range []int{-1, 0, 1} {
					op := api.Op{Kind: kind, A: n, B: m, Keep: []int{1}}
					if did := e.Do(op); did != api.DidDown || all(e) != before {
						t.Fatalf("P19.3: down, behind %q: %s answers %d; ahead of it\n%sbehind it\n%s", name, opTold(op), did, before, all(e))
					}
				}
			}
		}
		// A rig that was to be set while the machine was down isn't there behind that.
		if got := does(e, "arm 0; fail 9; recover; trigger; pick 0 0; pick 1 0; pick 1 0; post; post"); !strings.HasPrefix(got, "11 11 12 6 2 2 4 7 9") && !strings.HasPrefix(got, "11 11 12 6 2 1 2 7 9") {
			t.Errorf("P19.3: down, behind %q: the machine comes up and does %s", name, got)
		}
	}
}

// TestOnceHalted: every step answers halt, and nothing changes; all that can be asked is answered as before.
func TestOnceHalted(t *testing.T) {
	halted := map[string]func() *engine.Engine{
		"the numbers are used up": func() *engine.Engine {
			e := line().over(api.File{Name: "man-9999"}).open(t)
			does(e, "pick 0 0; pick 1 0; pick 0 0; trigger")
			return e
		},
		"a clash in a commit": func() *engine.Engine {
			data := outOf(t, "\"z\" 9\n")
			e := line().over(api.File{Name: "out-01", Data: data, Synced: len(data)}).open(t)
			does(e, through+"; pick 0 0; "+shoot+"; pick 1 0; post; pick 1 0; post")
			return e
		},
		"a clash in a coming up": func() *engine.Engine {
			g, files := twoShots(t)
			at := slices.IndexFunc(files, func(f api.File) bool { return f.Name == "out-01" })
			data := outOf(t, "\"a\" 1\n\"b\" 9\n")
			files[at] = api.File{Name: "out-01", Data: data, Synced: len(data)}
			return g.over(files...).open(t)
		},
	}
	for name, make := range halted {
		e := make()
		if s := e.Status(); !s.Halted || !s.Up {
			t.Fatalf("P19.7: %s: the status is %s", name, statusTold(s))
		}
		before := all(e)
		for kind := -1; kind < 12; kind++ {
			for _, n := range odd() {
				op := api.Op{Kind: kind, A: n, B: 0, Keep: []int{n}}
				if did := e.Do(op); did != api.DidHalt || all(e) != before {
					t.Fatalf("P19.3, P19.7: %s: %s answers %d; ahead of it\n%sbehind it\n%s", name, opTold(op), did, before, all(e))
				}
			}
		}
	}
}

// TestPicks: the answers of a pick are the runner's.
func TestPicks(t *testing.T) {
	inModes(t, "P19.3, pick", line(), "pick 1 0; pick 0 0; pick 0 0; pick 0 0; pick 1 0; pick 1 0; pick 1 0 -> 4 1 1 4 1 1 4", "pick 0 1; pick 1 1; pick 2 0; pick -1 0; pick 0 -1 -> 0 0 0 0 0",
		"trail = up 0, step 0.0, step 0.0, step 1.0, step 1.0")
	inModes(t, "P19.3, pick", long(), "pick 0 0; pick 0 0; pick 0 0; pick 1 0; pick 0 0 -> 1 1 3 1 1", "trail = up 0, step 0.0, step 0.0, step 1.0, step 0.0")
	plays(t, "P19.3, pick", pair().in(1), "pick 0 0; trigger; pick 0 0; pick 0 0; pick 1 0; pick 2 0; pick 2 0; pick 2 0; pick 2 1 -> 1 6 2 3 2 1 2 5 2",
		"trail = up 0, step 0.0, trigger 1, mark 0.0 1, copy 0 1, part 0 1, mark 1.0 1, copy 1 1, part 1 1, step 2.0, mark 2.0 1, mark 2.1 1, copy 2 1, part 2 1")
	plays(t, "P19.3, pick", pair().in(2), "pick 0 0; trigger; pick 0 0; pick 0 0; pick 1 0; pick 2 0; pick 2 0; pick 2 1 -> 1 6 2 3 2 1 2 2")
	e := line().open(t)
	before := all(e)
	for _, task := range odd() {
		for _, port := range odd() {
			if task == 0 && port == 0 || task == 1 && port == 0 {
				continue
			}
			if did := e.Do(api.Op{Kind: api.OpPick, A: task, B: port}); did != api.DidNothing || all(e) != before {
				t.Fatalf("P19.3, pick: task %d, port %d: %d", task, port, did)
			}
		}
	}
}

// TestTriggers: each answer, and the number behind the last one.
func TestTriggers(t *testing.T) {
	inModes(t, "P19.3, trigger", line(), "status = up next 1", "trigger; trigger; trigger -> 6 0 0", "status = up under 1 next 2", "abort; trigger; trigger -> 10 6 0", "status = up under 2 next 3 aborts 1",
		"trail = up 0, trigger 1, abort 1, trigger 2")
	for left := range 4 {
		g := line().over(api.File{Name: fmt.Sprintf("seg-%04d-07", 9999-left)})
		lines := []string{fmt.Sprint("status = up next ", 10000-left)}
		for n := range left {
			lines = append(lines, "trigger; trigger; abort -> 6 0 10", fmt.Sprintf("status = up next %d aborts %d", 10001-left+n, n+1))
		}
		lines = append(lines, "trigger; trigger; pick 0 0 -> 13 13 13", strings.TrimSuffix(fmt.Sprint("status = up halted next 10000 aborts ", left), " aborts 0"))
		inModes(t, "P19.3, trigger", g, lines...)
	}
	// The last number is stored too.
	plays(t, "P19.3, trigger", line().over(api.File{Name: "man-9998"}), through+"; "+shoot+" -> 1 1 "+shot, "status = up last 9999 next 10000", "outs = a=1", "crash; recover; trigger -> 11 12 13", "status = up halted last 9999 next 10000", "outs = a=1")
}

// TestAborts: each answer; what was under way is given up, and the parts that come later are dropped.
func TestAborts(t *testing.T) {
	inModes(t, "P19.3, abort", line(), "abort -> 0", "status = up next 1", "trigger; abort; abort -> 6 10 0", "status = up next 2 aborts 1", "pick 0 0; pick 1 0; post; post -> 2 2 4 4",
		"trigger; pick 0 0; post; abort; pick 1 0; post -> 6 2 7 10 2 4", "status = up next 3 aborts 2", shoot+"; abort -> "+shot+" 0", "status = up last 3 next 4 aborts 2",
		"crash; abort; recover; abort -> 11 11 12 0", "status = up last 3 next 4")
}

// TestRigs: arm, fail and spoil with numbers below 0 and out of reach.
func TestRigs(t *testing.T) {
	for _, n := range odd() {
		e := line().open(t)
		want := map[bool]int{true: api.DidNothing, false: api.DidRig}
		if did := e.Do(api.Op{Kind: api.OpArm, A: n, B: -1}); did != want[n < 0] {
			t.Errorf("P19.3, arm %d: %d", n, did)
		}
		e = line().open(t)
		for _, m := range odd() {
			if did := e.Do(api.Op{Kind: api.OpFail, A: n, B: m}); did != want[n < 0 || m < 0] {
				t.Errorf("P19.3, fail %d after %d: %d", n, m, did)
			}
		}
	}
	// A rig that means nothing leaves the one that is set; another one takes its place; 0 calls are no rig.
	plays(t, "P19.3, arm", line(), "arm 3; arm -1; "+shoot+" -> 14 0 6 2 2 7 11")
	plays(t, "P19.3, arm", line(), "arm 3; arm 9999; "+shoot+" -> 14 14 "+shot)
	plays(t, "P19.3, fail", line(), "fail 1; fail -1; fail 1 after -1; "+shoot+" -> 14 0 0 6 2 2 7 10")
	plays(t, "P19.3, fail", line(), "fail 1; fail 0; "+shoot+" -> 14 14 "+shot)
	plays(t, "P19.3, fail", line(), "fail 1; fail 1 after 99; "+shoot+" -> 14 14 "+shot)
	plays(t, "P19.3, fail", line(), "fail 2 after 0; "+shoot+"; "+shoot+"; "+shoot+" -> 14 6 2 2 7 10 6 2 2 7 10 "+shot, "status = up last 3 next 4 aborts 2")
	// Rigs of both kinds: the call that fails costs nothing.
	plays(t, "P19.3, arm and fail", line(), "arm 16; fail 1; "+shoot+"; "+shoot+" -> 14 14 6 2 2 7 10 6 2 2 7 11", "files = seg-0002-00 0/16")
}

// TestSpoils: just the bit that is named is turned, up and down; and no other number does anything.
func TestSpoils(t *testing.T) {
	g, files := twoShots(t)
	for _, down := range []bool{false, true} {
		e := g.over(files...).open(t)
		if down {
			does(e, "crash")
		}
		status, trail := asked(e, "status"), asked(e, "trail")
		for k, f := range files {
			for bit := -1; bit <= 8*len(f.Data); bit++ {
				want := slices.Clone(files)
				answer := api.DidNothing
				if bit >= 0 && bit < 8*len(f.Data) {
					answer = api.DidRig
					want[k].Data = slices.Clone(f.Data)
					want[k].Data[bit/8] ^= 1 << (bit % 8)
				}
				op := api.Op{Kind: api.OpSpoil, A: k, B: bit}
				if did := e.Do(op); did != answer || !sameFiles(e.Files(), want) {
					t.Fatalf("P19.3: down: %v: %s of %s answers %d, want %d, or other bits are turned", down, opTold(op), f.Name, did, answer)
				}
				if e.Do(op); !sameFiles(e.Files(), files) || asked(e, "status") != status || asked(e, "trail") != trail {
					t.Fatalf("P19.3: down: %v: %s: it isn't undone, or something else has changed", down, opTold(op))
				}
			}
		}
		for _, n := range odd() {
			for _, op := range []api.Op{{Kind: api.OpSpoil, A: n, B: -1}, {Kind: api.OpSpoil, A: n, B: math.MaxInt}, {Kind: api.OpSpoil, A: 100, B: n}, {Kind: api.OpSpoil, A: -1, B: n}, {Kind: api.OpSpoil, A: len(files), B: n}} {
				if did := e.Do(op); did != api.DidNothing || !sameFiles(e.Files(), files) {
					t.Fatalf("P19.3: down: %v: %s answers %d", down, opTold(op), did)
				}
			}
		}
	}
	plays(t, "P19.3, spoil", line(), "spoil 0 0; crash; spoil 0 0 -> 0 11 0")
	// A bit that isn't sure can be turned too.
	plays(t, "P19.3, spoil", line(), "trigger; pick 0 0; pick 1 0; post; fail 1 after 5; post; spoil 0 3; crash; recover 9999 -> 6 2 2 7 14 10 14 11 12", "status = up next 2")
}

// TestCrash: the machine falls, and all that isn't on the disk is gone.
func TestCrash(t *testing.T) {
	for _, g := range grounds() {
		_, sh, _, _ := g.parts()
		none := "outs =" + strings.Repeat(" /", len(sh.Sinks)-1)
		inModes(t, "P19.3, P19.6", g, "pick 0 0; pick 1 0; trigger; trigger; arm 5; crash; crash; pick 0 0", "status = down", "config = # #", none, "files =", "shot 1 = error 100", "shot 0 = error 100", "recover; recover -> 12 0", "status = up next 1")
	}
	// A snapshot whose pieces never came to the disk gives its number back.
	plays(t, "P19.6", line(), "trigger; abort; trigger; pick 0 0; crash -> 6 10 6 2 11", "status = down", "recover; trigger -> 12 6", "trail = up 0, trigger 1, abort 1, trigger 2, mark 0.0 1, copy 0 1, part 0 1, down, up 0, trigger 1")
}
