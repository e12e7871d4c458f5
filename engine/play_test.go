package engine_test

import (
	"fmt"
	"strings"
	"testing"

	"eddy/api"
	"eddy/engine"
	"eddy/pen"
	"eddy/plan"
	"eddy/value"
)

// played fails the test where Play answers another text.
func played(t *testing.T, promise string, g ground, steps, want string) {
	t.Helper()
	got, err := engine.Play(g.text, strings.ReplaceAll(steps, ";", "\n"), g.mode, g.tapes...)
	if err != nil || got != want {
		t.Errorf("%s: %v: Play of %q answers %q, %v, want %q", promise, g, steps, got, err, want)
	}
}

// TestPlay: sinks, records and the last line.
func TestPlay(t *testing.T) {
	played(t, "P19.14", line(), "", "k 0\nup last 0 lives 1\n")
	played(t, "P19.14", line(), "# nothing;;  ", "k 0\nup last 0 lives 1\n")
	played(t, "P19.14", line(), "crash", "k 0\ndown last 0 lives 1\n")
	played(t, "P19.14", line(), "repeat 3; crash; recover; end", "k 0\nup last 0 lives 4\n")
	played(t, "P19.14", fork(), forkThrough+";"+forkThrough+";"+forkShoot+"; post; trigger; post; crash", "l 2\n  \"a\" 1\n  \"b\" 2\nk 2\n  \"a\" 1\n  \"b\" 2\nm 2\n  \"a\" 1\n  \"b\" 2\ndown last 1 lives 1\n")
	played(t, "P19.14", fork(), "crash; pick 0 0; recover arm 0; spoil 0 0; fail 0; arm 5; "+forkShoot+"; post; recover", "l 0\nk 0\nm 0\nup last 0 lives 3\n")
}

// TestPlayTellsRecords: keys and values as they are printed, and the loop counters behind them.
func TestPlayTellsRecords(t *testing.T) {
	tape := "\"\" none\n\"a b\" \"x\\\"y\\\\\"\n\"\\xff\\n\" [1, [\"\\x00\", none], -9223372036854775808]\n\"twelve bytes\" []\n"
	played(t, "P19.14", line().with(tape), "repeat 4;"+through+"; end;"+shoot,
		"k 4\n  \"\" none\n  \"a b\" \"x\\\"y\\\\\"\n  \"\\xff\\n\" [1, [\"\\x00\", none], -9223372036854775808]\n  \"twelve bytes\" []\nup last 1 lives 1\n")
	// Three heads and a tee within: the counters are those of all three, the innermost last.
	nested := reads(8, "a=5", "s source 0", "g head", "h head", "i head", "e tee", "t tail 1 ; 0", "u tail 1 ; 0", "v tail 1 ; 0", "k sink", "l sink",
		"s.0 g.0", "g.0 h.0", "h.0 i.0", "i.0 e.0", "e.0 t.0", "t.1 u.0", "u.1 v.0", "v.1 k.0", "e.1 l.0", "t.0 i.1", "u.0 h.1", "v.0 g.1")
	steps := ""
	for task := range 10 {
		steps += fmt.Sprintf("pick %d 0;", task)
	}
	shoot := steps
	for task := 1; task <= 3; task++ {
		shoot += fmt.Sprintf("pick %d 1;", task)
	}
	played(t, "P19.14", nested, steps+"trigger;"+shoot+"repeat 10; post; end", "k 1\n  \"a\" 5\nl 1\n  \"a\" 5 @0.0.0\nup last 1 lives 1\n")
	again := reads(8, "a=5", "s source 0", "h head", "e tee", "t tail 0 ; 2", "k sink", "l sink", "s.0 h.0", "h.0 e.0", "e.0 t.0", "t.1 k.0", "e.1 l.0", "t.0 h.1")
	steps = "pick 0 0; repeat 3; pick 1 0; pick 1 1; pick 2 0; pick 3 0; end; repeat 3; pick 4 0; pick 5 0; end;"
	played(t, "P19.14", again, steps+"trigger; pick 0 0; pick 1 0; pick 2 0; pick 3 0; pick 1 1; pick 4 0; pick 5 0; repeat 6; post; end",
		"k 1\n  \"a\" 5\nl 3\n  \"a\" 5 @0\n  \"a\" 5 @1\n  \"a\" 5 @2\nup last 1 lives 1\n")
}

// TestPlayHalted: an output log's bits are turned till it clashes.
func TestPlayHalted(t *testing.T) {
	e := line().open(t)
	does(e, through+"; "+shoot)
	files := e.Files()
	spoils := turned(t, 1, files[1].Data, outOf(t, "\"b\" 1\n"))
	played(t, "P19.14", line(), through+";"+shoot+"; crash;"+spoils+"; recover; crash; recover", "k 1\n  \"b\" 1\nup halted last 1 lives 2\n")
}

// TestPlayErrors: New's, each ahead of the script's.
func TestPlayErrors(t *testing.T) {
	scripts := map[string]string{"": "ok", "pick 0 0\nnonsense\n": "fault 2 0 error 61", "pick 0": "fault 1 6 error 62", "\n repeat 3": "fault 2 1 error 66", "end": "fault 1 0 error 66",
		"repeat 2000\npick 0 0\npick 0 0\nend": "fault 4 0 error 65", strings.Repeat(" ", 8001): "fault 0 0 error 60", strings.Repeat("\n", 8000): "ok"}
	all := flaws()
	for _, a := range all[0] {
		for _, b := range all[1] {
			for _, c := range all[2] {
				var g ground
				want := ""
				for _, f := range []flaw{a, b, c} {
					if f.set(&g); want == "" {
						want = f.want
					}
				}
				for script, fault := range scripts {
					if want != "" {
						fault = want
					}
					got, err := engine.Play(g.text, script, g.mode, g.tapes...)
					if errorTold(err) != fault || (err == nil) != (got != "") {
						t.Fatalf("P19.14: %v: Play of %q answers %q, %s, want %s", g, script, got, errorTold(err), fault)
					}
				}
			}
		}
	}
}

// TestPlayIsTheEngine: of drawn scripts, what Play tells is what an engine tells that does their steps.
func TestPlayIsTheEngine(t *testing.T) {
	met := map[string]int{}
	for seed := range 150 {
		w := seeded(6000 + seed)
		w.Spoil = seed%5 == 0
		g := w.ground()
		script := w.script(t, g, 250)
		if seed%6 == 1 {
			script = append(script, api.Op{Kind: api.OpCrash})
		}
		// Steps that no script has are left out.
		text := ""
		var kept []api.Op
		for _, op := range script {
			if one, err := plan.PrintScript([]api.Op{op}); err == nil && len(text)+len(one) <= api.MaxScriptText {
				text, kept = text+one, append(kept, op)
			}
		}
		m := g.model(t).after(kept)
		_, sh, _, _ := g.parts()
		p, _ := plan.ParsePlan(g.text)
		want := ""
		for k, l := range m.Committed() {
			want += fmt.Sprintf("%s %d\n", p.Tasks[sh.Sinks[k]].Name, len(l))
			for _, r := range l {
				want += "  " + value.Print(api.Value{Kind: api.Text, Text: r.Key}) + " " + value.Print(r.Val)
				for n, c := range r.Loops {
					want += fmt.Sprint(map[bool]string{true: " @", false: "."}[n == 0], c)
				}
				want += "\n"
				met[fmt.Sprint("loop counters ", len(r.Loops))]++
			}
		}
		lives := strings.Count(", "+pen.TellTrail(m.Trail()), ", up ")
		s := m.Status()
		want += map[bool]string{true: "up", false: "down"}[s.Up] + map[bool]string{true: " halted"}[s.Halted] + fmt.Sprintf(" last %d lives %d\n", s.Last, lives)
		if got, err := engine.Play(g.text, text, g.mode, g.tapes...); err != nil || got != want {
			t.Fatalf("P19.14: %v: Play of %q answers %q, %v, want %q", g, text, got, err, want)
		}
		met[fmt.Sprint("up: ", s.Up)]++
		met[fmt.Sprint("several lives: ", lives > 1)]++
	}
	wantCases(t, met, 10, "up: true", "up: false", "several lives: true", "several lives: false", "loop counters 0", "loop counters 1")
}
