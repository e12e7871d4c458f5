package engine_test

import (
	"fmt"
	"slices"
	"strings"
	"testing"

	"eddy/api"
	"eddy/disk"
	"eddy/vault"
)

// A poise is an engine's ground and the steps that lead to the very last post of a snapshot: what that post does on the disk is to be looked at.
type poise struct {
	name  string
	g     ground
	steps string
}

// poises gives some: a first shot, a later one whose store takes files away, and one ahead of which a commit failed.
func poises() []poise {
	one := "trigger; pick 0 0; pick 1 0; post"
	return []poise{
		{"the first shot", line(), through + "; " + one},
		{"nothing is pending", line(), one},
		{"the third shot", long(), strings.Join([]string{through, shoot, through, shoot, through, one}, "; ")},
		{"three sinks, the fourth shot", fork(), strings.Join([]string{forkThrough, forkShoot, "post", forkThrough, forkShoot, "post", forkShoot, "post", forkThrough, forkShoot}, "; ")},
		{"a piece of a shot that was given up", long(), strings.Join([]string{through, one, "fail 1 after 3; post", through, one}, "; ")},
		{"a commit whose Sync failed", long(), strings.Join([]string{through, one, "fail 1 after 7; post", through, one}, "; ")},
	}
}

// A cost is what the calls of the last post cost, in units, and how many calls there are: of the save, of the commits, and of the prune.
type cost struct {
	save, commit, prune                int
	saveCalls, commitCalls, pruneCalls int
}

// costOf reckons it from the files ahead of the post and behind it.
func (p poise) costOf(t *testing.T) cost {
	t.Helper()
	e := p.g.open(t)
	does(e, p.steps)
	before := e.Files()
	next := e.Status().Next - 1
	if got := does(e, "post"); got != "9" {
		t.Fatalf("P19.4: %s: the last post answers %s", p.name, got)
	}
	after := e.Files()
	var c cost
	size := func(files []api.File, name string) (int, int) {
		at := slices.IndexFunc(files, func(f api.File) bool { return f.Name == name })
		if at < 0 {
			return 0, 0
		}
		return len(files[at].Data), files[at].Synced
	}
	for _, f := range after {
		was, sure := size(before, f.Name)
		switch {
		case strings.Contains(f.Name, fmt.Sprintf("-%04d", next)):
			c.save += len(f.Data) + 2
			c.saveCalls += 2
		case strings.HasPrefix(f.Name, "out-") && len(f.Data) > was:
			c.commit += len(f.Data) - was + 2
			c.commitCalls += 2
		case strings.HasPrefix(f.Name, "out-") && sure < was:
			c.commit++
			c.commitCalls++
		}
	}
	for _, f := range before {
		if !slices.ContainsFunc(after, func(g api.File) bool { return f.Name == g.Name }) {
			c.prune++
			c.pruneCalls++
		}
	}
	return c
}

// endOf gives what the trail has behind the entry that a shot is ready.
func endOf(m machine, id int) string {
	_, end, ok := strings.Cut(asked(m, "trail"), fmt.Sprint("ready ", id))
	if !ok {
		return "not ready"
	}
	return strings.TrimPrefix(end, ", ")
}

// commits tells what all commits of a shot lay into the trail.
func (p poise) commits(m machine) string {
	_, sh, _, _ := p.g.parts()
	c := m.Config()
	var all []string
	for k, sink := range sh.Sinks {
		all = append(all, fmt.Sprintf("commit %d %d", sink, len(c.Outs[k])))
	}
	return strings.Join(all, ", ")
}

// TestFallInAStore: the machine falls at each unit of a save, of the commits and of a prune.
func TestFallInAStore(t *testing.T) {
	for _, p := range poises() {
		c := p.costOf(t)
		for units := range c.save + c.commit + c.prune + 3 {
			e, m := p.g.open(t), p.g.model(t)
			does(e, p.steps)
			does(m, p.steps)
			id, last, outs := e.Status().Under, e.Status().Last, asked(e, "outs")
			complete := fmt.Sprint("complete ", id)
			whole := complete + ", " + p.commits(e)
			step := fmt.Sprint("arm ", units, "; post")
			got, want := does(e, step), "14 11"
			does(m, step)
			end := endOf(e, id)
			fault := ""
			switch {
			case units < c.save:
				if end != "down" || e.Status() != (api.Status{Last: last}) || asked(e, "outs") != outs {
					fault = "it falls in the save"
				}
			case units < c.save+c.commit:
				if !strings.HasPrefix(end, complete) || end == whole+", down" || !strings.HasSuffix(end, ", down") || e.Status() != (api.Status{Last: id}) {
					fault = "it falls in a commit"
				}
			case units < c.save+c.commit+c.prune:
				if end != whole+", down" || e.Status() != (api.Status{Last: id}) {
					fault = "it falls in the prune"
				}
			default:
				if want = "14 9"; end != whole {
					fault = "it stands"
				}
			}
			if why := difference(e, m); fault != "" || got != want || why != "" {
				t.Fatalf("P19.4, P19.5, P19.6: %s: with %d units, of %+v: %s: it answers %s, the trail ends with %s, the status is %s; %s", p.name, units, c, fault, got, end, asked(e, "status"), why)
			}
			if want == "14 9" {
				continue
			}
			// What is lost of the bytes that weren't sure is all or nothing of a shot.
			for _, keep := range []string{"", " 0 9999", " 9999 0", " 9999", " 3 7 11"} {
				p.comesUp(t, units, keep, units < c.save)
			}
		}
	}
}

// comesUp lets a machine that fell with so many units come up, with what is kept: it is at the shot that was being stored, or at the one ahead of it; and goes on.
func (p poise) comesUp(t *testing.T, units int, keep string, inSave bool) {
	t.Helper()
	e := p.g.open(t)
	does(e, p.steps)
	id, last := e.Status().Under, e.Status().Last
	does(e, fmt.Sprint("arm ", units, "; post"))
	d, _ := disk.New(e.Files())
	d.Restart(opsOf("recover" + keep)[0].Keep)
	_, err := vault.Open(d).Load(id)
	got := does(e, "recover"+keep)
	if err == nil {
		last = id
	}
	if got != "12" || e.Status().Last != last || !inSave && last != id {
		t.Fatalf("P19.2, P20.2: %s: it falls with %d units and comes up with%s: %s, %s, want last %d", p.name, units, keep, got, asked(e, "status"), last)
	}
	if outs, all := asked(e, "outs"), e.Config(); outs != asked(outsOf(all), "outs") {
		t.Fatalf("P19.2, P19.5: %s: it falls with %d units and comes up with%s: committed is %s, want all output of the shot: %v", p.name, units, keep, outs, all.Outs)
	}
}

// outsOf is a machine that tells all output of a configuration as committed.
type outsOf api.Config

func (c outsOf) Do(api.Op) int              { return 0 }
func (c outsOf) Status() api.Status         { return api.Status{} }
func (c outsOf) Config() api.Config         { return api.Config(c) }
func (c outsOf) Committed() [][]api.Record  { return c.Outs }
func (c outsOf) Shot(int) (api.Shot, error) { return api.Shot{}, nil }
func (c outsOf) Trail() []api.Trail         { return nil }
func (c outsOf) Files() []api.File          { return nil }

// TestFailedCallsInAStore: one call, or several, fail at each place of a save, of the commits and of a prune.
func TestFailedCallsInAStore(t *testing.T) {
	for _, p := range poises() {
		c := p.costOf(t)
		for after := range c.saveCalls + c.commitCalls + c.pruneCalls + 2 {
			for _, calls := range []int{1, 2, 3, 100} {
				e, m := p.g.open(t), p.g.model(t)
				does(e, p.steps)
				does(m, p.steps)
				status, outs := e.Status(), asked(e, "outs")
				whole := fmt.Sprint("complete ", status.Under, ", ", p.commits(e))
				step := fmt.Sprint("fail ", calls, " after ", after, "; post")
				got, want := does(e, step), "14 9"
				does(m, step)
				end := endOf(e, status.Under)
				fault := ""
				switch {
				case after < c.saveCalls:
					want = "14 10"
					if end != fmt.Sprint("abort ", status.Under) || e.Status() != (api.Status{Up: true, Last: status.Last, Next: status.Next, Aborts: status.Aborts + 1}) || asked(e, "outs") != outs {
						fault = "a call of the save fails"
					}
				case after < c.saveCalls+c.commitCalls:
					if !strings.HasPrefix(end, fmt.Sprint("complete ", status.Under)) || end == whole || strings.HasSuffix(end, "down") || e.Status().Last != status.Under {
						fault = "a call of a commit fails"
					}
				default:
					if end != whole || e.Status().Last != status.Under {
						fault = "no call of a commit fails"
					}
				}
				if why := difference(e, m); fault != "" || got != want || why != "" || !e.Status().Up || e.Status().Halted {
					t.Fatalf("P19.4, P19.5: %s: %s, of %+v: %s: it answers %s, the trail ends with %s, the status is %s; %s", p.name, step, c, fault, got, end, asked(e, "status"), why)
				}
				p.madeGood(t, step)
			}
		}
	}
}

// madeGood lets calls fail in a store, and takes another snapshot with all calls going on: everything is committed, and what is not needed is gone.
func (p poise) madeGood(t *testing.T, step string) {
	t.Helper()
	e := p.g.open(t)
	does(e, p.steps+"; "+step+"; fail 0")
	next := shoot
	if strings.Contains(p.g.text, "tee") {
		next = forkShoot + "; post"
	}
	does(e, next)
	if s := e.Status(); s.Last != s.Next-1 || asked(e, "outs") != asked(outsOf(e.Config()), "outs") {
		t.Fatalf("P19.5: %s: %s: behind another snapshot the status is %s, committed is %s", p.name, step, asked(e, "status"), asked(e, "outs"))
	}
	d, _ := disk.New(e.Files())
	v := vault.Open(d)
	if v.Prune(); len(d.Files()) != len(e.Files()) {
		t.Fatalf("P19.4: %s: %s: behind another snapshot the files are %s", p.name, step, filesTold(e.Files()))
	}
}

// TestFailsAndFallsAtOnce: calls fail and the machine falls behind them, at any places; held against the model.
func TestFailsAndFallsAtOnce(t *testing.T) {
	for _, p := range poises()[:4] {
		c := p.costOf(t)
		for after := range c.saveCalls + c.commitCalls + c.pruneCalls {
			for units := 0; units < c.save+c.commit+c.prune; units += 5 {
				e, m := p.g.open(t), p.g.model(t)
				steps := fmt.Sprintf("%s; fail 1 after %d; arm %d; post; recover 5 9999", p.steps, after, units)
				got, want := does(e, steps), does(m, steps)
				if why := difference(e, m); got != want || why != "" {
					t.Fatalf("P19.4, P19.5: %s: %s answers %s, want %s; %s", p.name, steps, got, want, why)
				}
			}
		}
	}
}

// TestClashInAStore: the shot is complete, the engine halts, the sinks behind the one that clashes have no turn, and nothing is taken away.
func TestClashInAStore(t *testing.T) {
	other := fork().with("\"z\" 9\n")
	stored := plays(t, "P19.4", other, forkThrough+"; "+forkShoot+"; post -> 1 1 1 1 1 "+forkShot+" 9", "outs = z=9 / z=9 / z=9").Files()
	for _, x := range []struct{ clash, first, outs, trail, logs string }{
		{"out-00", "z=9 / /", "z=9 / /", "complete 2", "out-00"},
		{"out-02", "/ z=9 /", "a=1 / z=9 /", "complete 2, commit 0 1", "out-00, out-02"},
		{"out-04", "/ / z=9", "a=1 / a=1 / z=9", "complete 2, commit 0 1, commit 2 1", "out-00, out-02, out-04"},
	} {
		files := slices.DeleteFunc(slices.Clone(stored), func(f api.File) bool { return f.Name != x.clash })
		e := plays(t, "P19.4, P19.5", fork().over(files...), "status = up next 1", "outs = "+x.first,
			forkThrough+"; "+forkShoot+"; fail 1 after 1; post -> 1 1 1 1 1 "+forkShot+" 14 10",
			forkShoot+"; post -> "+forkShot+" 13", "status = up halted last 2 next 3 aborts 1", "outs = "+x.outs,
			"files = man-0002, "+x.logs+", seg-0001-00 0/22, seg-0002-00, seg-0002-01, seg-0002-02, seg-0002-03, seg-0002-04",
			"shot 2 = 2 {1 [] <a=1>} {1} {1 [] <a=1>} {0 []} {1 [] <a=1>}", "recover; crash; post -> 13 13 13")
		if end := endOf(e, 2); end != x.trail {
			t.Errorf("P19.4, P19.5: %s clashes: the trail ends with %s, want %s", x.clash, end, x.trail)
		}
	}
}

// TestOutputLogsThatAreFull: what can't be laid down stays pending, and the shots go on.
func TestOutputLogsThatAreFull(t *testing.T) {
	full := api.File{Name: "out-01", Data: make([]byte, api.MaxFile), Synced: api.MaxFile}
	plays(t, "P19.5", line().over(full), "outs =", "files = out-01", through+"; "+shoot+" -> 1 1 "+shot, "outs = a=1")
	many := make([]api.File, api.MaxFiles-1)
	for k := range many {
		many[k] = api.File{Name: fmt.Sprint("x", k)}
	}
	// There is no room for a second file: every save is given up.
	plays(t, "P19.4, P20.5", line().over(many...), through+"; "+shoot+"; "+shoot+" -> 1 1 6 2 2 7 10 6 2 2 7 10", "status = up next 3 aborts 2", "outs =")
	// There is room for the shot, and none for the output log.
	plays(t, "P19.5, P20.5", line().over(many[:api.MaxFiles-3]...), through+"; "+shoot+" -> 1 1 "+shot, "status = up last 1 next 2", "outs =", "crash; recover -> 11 12", "status = up last 1 next 2", "config = 1 / 1 # # a=1", "outs =",
		"trail = up 0, step 0.0, step 1.0, trigger 1, mark 0.0 1, copy 0 1, part 0 1, mark 1.0 1, copy 1 1, part 1 1, ready 1, complete 1, down, up 1")
}
