package outlet_test

import (
	"fmt"
	"slices"
	"testing"

	"eddy/api"
	"eddy/equal"
	"eddy/pen"
)

// isWhole fails the test where a sink's log isn't just this list, all of it sure.
func isWhole(t *testing.T, s system, sink int, want []api.Record, what string) {
	t.Helper()
	log := logOf(0, want)
	f := fileOf(s.Disk, sink)
	if string(f.Data) != string(log) || f.Synced != len(log) {
		t.Fatalf("P15.5: %s: the file is %s, want %s", what, filesTold([]api.File{f}), recsTold(want))
	}
	if l := s.logs[sink]; l.Len() != len(want) || !equal.Records(l.Records(), want) {
		t.Fatalf("P15.5: %s: the records are %s, want %s", what, recsTold(l.Records()), recsTold(want))
	}
}

// TestEveryDivision: of a short list into pieces that follow one another, each of them committed once, twice, or with those ahead of it.
func TestEveryDivision(t *testing.T) {
	whole := recs("ab-cde")
	for cuts := range 1 << (len(whole) - 1) {
		for again := range 3 {
			s, _ := systems(t, nil)
			call{What: "open", Sink: 5, At: 5}.of(s)
			from := 0
			for end := 1; end <= len(whole); end++ {
				if end < len(whole) && cuts>>(end-1)&1 == 0 {
					continue
				}
				if again == 2 {
					from = 0
				}
				for range min(again, 1) + 1 {
					if err := s.logs[5].Commit(from, whole[from:end]); err != nil {
						t.Fatalf("P15.5: Commit of the records %d to %d answers %v", from, end, err)
					}
				}
				from = end
			}
			isWhole(t, s, 5, whole, fmt.Sprintf("cuts %06b, again %d", cuts, again))
		}
	}
}

// TestDrawnDivisions: lists of several sinks at once, in pieces that are committed again and again, over other files, while calls fail; what failed is tried once more.
func TestDrawnDivisions(t *testing.T) {
	failed := 0
	for seed := range 400 {
		w := seeded(seed, false)
		s, _ := systems(t, []api.File{{Name: "other", Data: []byte{1}}})
		lists, done := map[int][]api.Record{}, map[int]int{}
		for _, sink := range w.sinks {
			call{What: "open", Sink: sink, At: sink}.of(s)
			lists[sink] = w.records(40)
		}
		left := func(sink int) int { return len(lists[sink]) - done[sink] }
		for slices.ContainsFunc(w.sinks, func(sink int) bool { return left(sink) > 0 }) {
			sink := w.sink()
			from := w.Below(done[sink] + 1)
			end := w.Between(from, done[sink]+w.Below(left(sink)+1))
			if w.Below(3) == 0 {
				s.Fail(w.Below(3), w.Between(1, 3))
			}
			if err := s.logs[sink].Commit(from, lists[sink][from:end]); err != nil {
				failed++
				continue
			}
			done[sink] = max(done[sink], end)
		}
		s.Fail(-1, 0)
		for _, sink := range w.sinks {
			if err := s.logs[sink].Commit(0, lists[sink]); err != nil {
				t.Fatalf("P15.5: seed %d: Commit of all that stands: %v", seed, err)
			}
			if len(lists[sink]) > 0 {
				isWhole(t, s, sink, lists[sink], fmt.Sprint("seed ", seed))
			}
		}
		if others := len(s.Files()) - 1; others > len(w.sinks) {
			t.Fatalf("P15.5: seed %d: there are %d logs of %d sinks", seed, others, len(w.sinks))
		}
	}
	if failed < 1000 {
		t.Errorf("only %d Commits failed", failed)
	}
}

// A scene is where a machine is to fall: over files, behind calls, within a call.
type scene struct {
	files []api.File
	lead  []call
	last  call
}

func sceneOf(files, last string, lead ...string) scene {
	s := scene{files: filesOf(files), last: called(last)}
	for _, one := range lead {
		s.lead = append(s.lead, called(one))
	}
	return s
}

// before plays what comes ahead of the fall.
func (s scene) before(t *testing.T) *twins {
	t.Helper()
	w := twinsOver(t, s.files)
	w.life = lifeOf(s.files)
	if !w.follow(t, s.lead) {
		t.FailNow()
	}
	return w
}

// falls lets the machine fall at every unit within the scene's last call, with every number of bytes that survive (of more than some of them the edges and some that are drawn), and tells how often it came up.
func (s scene) falls(t *testing.T, sink, most int) int {
	t.Helper()
	count := 0
	for units := 0; ; units++ {
		lead := slices.Concat([]call{{What: "arm", Nums: []int{units}}, s.last})
		w := s.before(t)
		if !w.follow(t, lead) {
			t.FailNow()
		}
		f := fileOf(w.real.Disk, sink)
		unsure := len(f.Data) - f.Synced
		for _, keep := range survivors(pen.Seeded(units), unsure, most) {
			count++
			w := s.before(t)
			w.follow(t, lead)
			s.comesUp(t, w, sink, f.Data[:f.Synced+keep], keep)
		}
		if !isDown(w.real.Disk) {
			return count
		}
	}
}

// survivors gives numbers of unsure bytes that survive.
func survivors(p *pen.Pen, unsure, most int) []int {
	var all []int
	for k := range unsure + 1 {
		if unsure <= most || k < 2 || k > unsure-2 || p.Below(unsure) < 3 {
			all = append(all, k)
		}
	}
	return all
}

// comesUp lets the machine come up with these bytes in a sink's file: just the whole rows in them are found, and the list can be gone on with.
func (s scene) comesUp(t *testing.T, w *twins, sink int, left []byte, keep int) {
	t.Helper()
	want, _ := modelScan(left)
	script := []call{{What: "restart", Nums: []int{keep}}, {What: "open", Sink: sink, At: sink}}
	if !w.follow(t, script) {
		t.FailNow()
	}
	if got := w.real.logs[sink].Records(); !equal.Records(got, want) {
		t.Fatalf("P15.6: files {%s}, %v, %v, Restart(%d): the records are %s, want %s", filesTold(s.files), s.lead, s.last, keep, recsTold(got), recsTold(want))
	}
	// What was to be laid down can be now, from any number of those that stand on.
	from := min(s.last.From, len(want))
	rest := slices.Concat(want, s.last.Recs[min(len(s.last.Recs), max(0, len(want)-s.last.From)):])
	if s.last.What != "commit" || s.last.From > len(want) {
		rest = want
	}
	if !w.follow(t, []call{{What: "commit", At: sink, From: from, Recs: rest[from:]}}) {
		t.FailNow()
	}
	if len(rest) > 0 {
		isWhole(t, w.real, sink, rest, fmt.Sprintf("%v, Restart(%d)", s.last, keep))
	}
}

// TestAFallAtEveryUnit: within a Commit and within an Open, wherever they can be met.
func TestAFallAtEveryUnit(t *testing.T) {
	for _, s := range []scene{
		sceneOf("", "commit 3 0 a", "open 3"), sceneOf("", "commit 3 0 abc", "open 3"), sceneOf("out-03: ab", "commit 3 1 bcd", "open 3"), sceneOf("out-03: ab", "commit 3 0", "open 3"),
		sceneOf("out-03: ab", "commit 3 4 ef", "open 3", "fail 1 1", "commit 3 2 cd"), sceneOf("out-03: ab", "commit 3 3 def", "open 3", "fail 1 1", "commit 3 2 cd"),
		sceneOf("out-03: ab", "commit 3 0 a", "open 3", "fail 1 1", "commit 3 2 cd"), sceneOf("out-03: ab+5 of a", "commit 3 2 c", "open 3"),
		sceneOf("out-03: ab", "commit 3 2 cd", "open 3", "arm 9", "commit 3 2 x", "restart 99", "open 3"),
		sceneOf("out-03: ab+5", "open 3"), sceneOf("out-03: abc of a+3", "open 3"), sceneOf("out-03: abc+9 of a", "open 3"), sceneOf("out-03: +9 of", "open 3"), sceneOf("", "open 3"),
		sceneOf("out-03: a", "open 3", "open 3", "fail 1 1", "commit 3 1 bc"),
		sceneOf("out-03: a", "open 3", "open 3", "arm 50", "commit 3 1 bcd", "restart 40"),
	} {
		if count := s.falls(t, 3, 1<<20); s.last.What == "commit" && len(s.last.Recs) > 0 && count < 30 {
			t.Errorf("P15.6: %v, %v: the machine comes up in only %d ways", s.lead, s.last, count)
		}
	}
}

// TestFallsOfDrawnCommits: behind drawn scripts, over drawn files.
func TestFallsOfDrawnCommits(t *testing.T) {
	count := 0
	for seed := range 30 {
		w := seeded(seed, false)
		w.sinks = w.sinks[:1]
		s := scene{files: w.files()}
		s.files = slices.DeleteFunc(s.files, func(f api.File) bool { return f.Name == "other" })
		now := s.before(t)
		for at := -1; at < 0 || isDown(now.real.Disk) || now.old[at] || len(s.lead) < 8; {
			c := w.call(now)
			if isDown(now.real.Disk) {
				c = w.restart()
			}
			s.lead = append(s.lead, c)
			now.step(c)
			at = -1
			if place, there := w.pick(now); there {
				at = place
			}
		}
		s.lead = append(s.lead, call{What: "fail", Nums: []int{-1, 0}})
		sink := w.sinks[0]
		stand, _ := modelScan(now.stand(sink).log)
		from := w.Below(len(stand) + 1)
		s.last = call{What: "commit", At: sink, From: from, Recs: slices.Concat(stand[from:], w.records(2), []api.Record{w.record()})}
		count += s.falls(t, sink, 4)
	}
	if count < 5000 {
		t.Errorf("P15.6: the machine comes up in only %d ways", count)
	}
}

// TestWhileTheMachineIsDown: no new record is taken, whatever stands, and nothing is written; nothing panics, then or behind the Restart.
func TestWhileTheMachineIsDown(t *testing.T) {
	for _, lead := range [][]string{{"crash"}, {"arm 0", "commit 3 2 c"}, {"arm 9", "commit 3 2 c"}, {"arm 25", "commit 3 2 c"}, {"fail 1 1", "commit 3 2 c", "crash"}, {"fail 1 1", "commit 3 2 c", "arm 0", "commit 3 0"}} {
		w := sceneOf("out-03: ab", "files", slices.Concat([]string{"open 3"}, lead)...).before(t)
		files := w.real.Files()
		stand := len(w.stand(3).rows)
		for from := -1; from <= stand+1; from++ {
			for count := range 5 {
				c := call{What: "commit", At: 3, From: from, Recs: recs("abcdefgh"[max(0, from):][:count])}
				if a := c.of(w.real); a.Err == nil && count > 0 && from+count > stand {
					t.Errorf("P15, Rules for all calls: %v, then %v answers no error", lead, c)
				}
				called("len 3").of(w.real)
				called("records 3").of(w.real)
			}
		}
		if got := called("open 3 7").of(w.real); errorTold(got.Err) != "down out-03" || got.Open || !sameFiles(w.real.Files(), files) || !isDown(w.real.Disk) {
			t.Errorf("P15.2: %v: Open answers %v, the files are %s", lead, got.Err, filesTold(w.real.Files()))
		}
		w.real.Restart([]int{5})
		for _, s := range []string{"len 3", "records 3", "commit 3 0", "commit 3 2 c", "commit 3 9", "commit 3 0 K", "records 3"} {
			called(s).of(w.real)
		}
	}
}
