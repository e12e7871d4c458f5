package outlet_test

import (
	"fmt"
	"slices"
	"strings"
	"testing"

	"eddy/api"
	"eddy/pen"
)

// openCase tells which case of P15.2 an Open is, by the files ahead of it and by its answer.
func openCase(c call, files []api.File, a answer) string {
	why := strings.Fields(errorTold(a.Err))[0]
	if why == "no" {
		return "open: no sink"
	}
	f, there := found(files, c.Sink)
	_, size := modelScan(f.Data)
	switch torn, unsure := size < len(f.Data), f.Synced < size; {
	case !there:
		return "open: no file: " + why
	case len(f.Data) == 0:
		return "open: an empty file: " + why
	case torn && unsure:
		return "open: torn and unsure: " + why
	case torn:
		return "open: torn: " + why
	case unsure:
		return "open: unsure: " + why
	}
	return "open: whole: " + why
}

// A moment is what the model held ahead of a Commit.
type moment struct{ stand, sure int }

// commitCase tells which case of P15.4 a Commit is, by what stood ahead of it and behind it, and by its answer.
func commitCase(c call, m moment, behind int, a answer) string {
	why := strings.Fields(errorTold(a.Err))[0]
	old := max(0, min(len(c.Recs), m.stand-c.From))
	what := "nothing"
	switch {
	case c.From < 0:
		return "commit: below: " + why
	case c.From > m.stand:
		return "commit: behind: " + why
	case why == "clash" && m.sure < m.stand:
		return "commit: clash, some unsure"
	case why == "clash" || why == "error":
		return "commit: " + why
	case len(c.Recs) > old && old > 0:
		what = "old and new"
	case len(c.Recs) > old:
		what = "new"
	case old > 0:
		what = "old"
	}
	if m.sure < m.stand {
		what += ", some unsure"
	}
	if why != "ok" && behind > m.stand {
		why += " in the sync"
	}
	return "commit: " + what + ": " + why
}

// counts plays a drawn script, and counts the cases that come about.
func (w *writer) counts(t *testing.T, s *twins, steps int, met map[string]int) bool {
	t.Helper()
	files := s.real.Files()
	var script []call
	for range steps {
		c := w.call(s)
		script = append(script, c)
		before, m := s.model.Files(), moment{}
		free, down := s.isOld(c), isDown(s.real.Disk)
		if s.stand(c.At) != nil {
			m = moment{len(s.stand(c.At).rows), s.stand(c.At).Len()}
		}
		why := s.step(c)
		if why != "" {
			t.Errorf("P15.2 to P15.6: files {%s}, %s: %s", filesTold(files), lastOf(script), why)
			return false
		}
		switch {
		case free:
			met[fmt.Sprint("old: ", c.What, ", down: ", down)]++
		case c.What == "open":
			met[openCase(c, before, s.last)]++
		case c.What == "commit" && s.stand(c.At) != nil:
			met[commitCase(c, m, len(s.stand(c.At).rows), s.last)]++
		}
	}
	return true
}

// wantCases fails the test where one of the cases is met less often than it is wanted.
func wantCases(t *testing.T, met map[string]int, least int, cases ...string) {
	t.Helper()
	for _, one := range cases {
		if met[one] < least {
			t.Errorf("the case %q is drawn %d times, want %d", one, met[one], least)
		}
	}
}

func allCases() []string {
	all := []string{"open: no sink", "open: no file: ok", "open: no file: down", "open: an empty file: ok", "open: an empty file: down", "open: whole: ok", "open: whole: down",
		"commit: below: gap", "commit: behind: gap", "commit: clash", "commit: clash, some unsure", "commit: error", "commit: nothing: ok", "commit: old: ok",
		"old: commit, down: true"}
	for _, what := range []string{"torn", "unsure", "torn and unsure"} {
		all = append(all, "open: "+what+": ok", "open: "+what+": io", "open: "+what+": down")
	}
	for _, what := range []string{"old and new", "new"} {
		for _, some := range []string{"", ", some unsure"} {
			for _, why := range []string{"ok", "io", "io in the sync", "down", "down in the sync"} {
				all = append(all, "commit: "+what+some+": "+why)
			}
		}
	}
	for _, what := range []string{"nothing", "old"} {
		all = append(all, "commit: "+what+", some unsure: ok", "commit: "+what+", some unsure: io", "commit: "+what+", some unsure: down")
	}
	return all
}

// TestDrawnScripts: outlets of several sinks over one disk while calls fail and the machine falls, held against the model and against their own history, with each case counted.
func TestDrawnScripts(t *testing.T) {
	met := map[string]int{}
	for seed := range 1200 {
		w := seeded(seed, false)
		files := w.files()
		s := twinsOver(t, files)
		s.life = lifeOf(files)
		if !w.counts(t, s, 60, met) {
			return
		}
	}
	wantCases(t, met, 20, allCases()...)
}

// TestDrawnScriptsBehindOthersBacks: others write into the files, and two outlets may be those of one sink.
func TestDrawnScriptsBehindOthersBacks(t *testing.T) {
	met := map[string]int{}
	for seed := range 1000 {
		w := seeded(seed, true)
		if !w.counts(t, twinsOver(t, w.files()), 60, met) {
			return
		}
	}
	wantCases(t, met, 20, allCases()...)
}

// TestAllShortScripts: of few calls, from several beginnings.
func TestAllShortScripts(t *testing.T) {
	var calls []call
	for _, s := range []string{"open 3", "commit 3 0 a", "commit 3 0 ab", "commit 3 1 b", "commit 3 0 b", "commit 3 1 cd", "commit 3 0", "commit 3 2", "commit 3 1 K",
		"fail 0 1", "fail 1 1", "arm 1", "arm 25", "crash", "restart", "restart 5", "restart 99"} {
		calls = append(calls, called(s))
	}
	for _, c := range []struct {
		files string
		lead  []string
		count int
	}{
		{"", []string{"open 3"}, 4}, {"", []string{"open 3", "fail 1 1", "commit 3 0 a"}, 3}, {"out-03: ab+5 of a", nil, 3}, {"out-03: a", []string{"open 3", "commit 3 1 b"}, 3},
		{"out-03: a+2", []string{"open 3", "arm 30", "commit 3 1 bcd"}, 3}, {"out-03: b of", []string{"fail 0 1", "open 3"}, 3},
	} {
		var lead []call
		for _, s := range c.lead {
			lead = append(lead, called(s))
		}
		files := filesOf(c.files)
		for row := range pen.Rows(calls, c.count) {
			s := twinsOver(t, files)
			s.life = lifeOf(files)
			if !s.follow(t, slices.Concat(lead, row)) {
				return
			}
		}
	}
}

// refused draws a Commit that an outlet refuses at this moment without asking the disk.
func (w *writer) refused(t *testing.T, s *twins, at int) call {
	for {
		c := w.commit(s, at)
		m := s.stand(at)
		other := &model{newDisk(t, nil), m.name, slices.Clone(m.log), slices.Clone(m.rows)}
		err := errorTold(other.Commit(c.From, c.Recs))
		if strings.HasPrefix(err, "gap") || strings.HasPrefix(err, "clash") || strings.HasPrefix(err, "error 2") {
			return c
		}
	}
}

// TestARefusedCommitChangesNothing: an outlet that refuses some between answers all others as one without them, and so does its disk.
func TestARefusedCommitChangesNothing(t *testing.T) {
	met := map[string]int{}
	for seed := range 400 {
		w := seeded(seed, false)
		s := twinsOver(t, w.files())
		var script []call
		for range 50 {
			if at, there := w.pick(s); there {
				for range w.Below(3) {
					bad := w.refused(t, s, at)
					a := bad.of(s.real)
					met[strings.Fields(errorTold(a.Err))[0]]++
					if a.Err == nil {
						t.Fatalf("P15.4: %s, then %v: it answers no error", lastOf(script), bad)
					}
				}
			}
			c := w.call(s)
			script = append(script, c)
			if why := s.step(c); why != "" {
				t.Fatalf("P15, Rules for all calls: %s, behind refused Commits: %s", lastOf(script), why)
			}
		}
	}
	wantCases(t, met, 200, "gap", "clash", "error")
}

// TestQuestionsChangeNothing: Len and Records, asked as often as anyone likes, and Opens of another outlet where nothing is to be mended.
func TestQuestionsChangeNothing(t *testing.T) {
	for seed := range 300 {
		w := seeded(seed, false)
		s := twinsOver(t, w.files())
		var script []call
		for range 50 {
			for _, at := range s.sinks {
				if l := s.real.logs[at]; l != nil {
					l.Len()
					l.Records()
				}
				f := fileOf(s.real.Disk, at)
				if _, size := modelScan(f.Data); size == f.Synced && size == len(f.Data) {
					openOutlet(s.real.Disk, at)
				}
			}
			c := w.call(s)
			script = append(script, c)
			if why := s.step(c); why != "" {
				t.Fatalf("P15.2, P15.3: %s, behind questions: %s", lastOf(script), why)
			}
		}
	}
}

// TestDisksBesideOneAnother: what happens to one, and to its outlets, the others don't see.
func TestDisksBesideOneAnother(t *testing.T) {
	for seed := range 60 {
		w := seeded(seed, seed%2 == 0)
		files := w.files()
		var all []*twins
		for range 6 {
			all = append(all, twinsOver(t, files))
		}
		for range 400 {
			n := w.Below(len(all))
			c := w.call(all[n])
			if why := all[n].step(c); why != "" {
				t.Fatalf("P15, Rules for all calls: disk %d among others: %v: %s", n, c, why)
			}
		}
	}
}
