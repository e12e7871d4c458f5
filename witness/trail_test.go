package witness_test

import (
	"math"
	"slices"
	"strconv"
	"testing"

	"eddy/api"
	"eddy/pen"
)

// TestTheExamples: those of the chapter.
func TestTheExamples(t *testing.T) {
	wants(t, "example 1", "step 0.0, trigger 1, mark 0.0 1, copy 0 1, part 0 1, step 1.0, step 0.0, mark 1.0 1, copy 1 1, part 1 1, ready 1, step 1.0", 2,
		"split 1 = 0.0 1.0 | 0.0", "path 1 =", "line = 0.0 1.0 0.0 1.0")
	wants(t, "example 2", "copy 0 1, step 0.0, step 1.0, step 1.0, copy 1 1, ready 1", 2, "split 1 = 1.0 1.0 | 0.0", "path 1 = 0 1")
	wants(t, "example 3", "copy 0 1, step 0.0, step 0.0, step 1.0, step 1.0, copy 1 1, ready 1", 2, "path 1 = 1 0 2 1")
	wants(t, "example 4", "up 0, step 0.0, copy 0 1, ready 1, step 0.0, down, up 1, step 0.0", 1, "line = 0.0 0.0", "split 1 = 0.0 |")
	wants(t, "example 4", "up 0, step 0.0, copy 0 1, ready 1, step 0.0, down, up 2, step 0.0", 1, "line = no shot", "split 1 = 0.0 |")
	wants(t, "example 5", "", 1, "split 1 = no shot")
	wants(t, "example 5", "", 0, "split 1 = no trail")
}

// TestCountsOfTasks: those that there may be, and others.
func TestCountsOfTasks(t *testing.T) {
	for _, tasks := range []int{1, 2, 11, 12} {
		wants(t, "P18.1", "", tasks, "split 1 = no shot", "path 1 = no shot", "line =")
	}
	good := "step 0.0, copy 0 1, ready 1"
	for _, tasks := range []int{0, -1, 13, 14, math.MinInt, math.MaxInt} {
		wants(t, "P18.1", "", tasks, "split 1 = no trail", "path 1 = no trail", "line = no trail")
		wants(t, "P18.1", good, tasks, "split 1 = no trail", "split 2 = no trail", "path 1 = no trail", "line = no trail")
	}
	wants(t, "P18.1", good, 1, "split 1 = 0.0 |", "split 2 = no shot", "path 1 =", "line = 0.0")
	all := "step 11.3"
	for task := range 12 {
		all += ", copy " + strconv.Itoa(task) + " 1"
	}
	wants(t, "P18.1", all+", ready 1", 12, "split 1 = 11.3 |", "path 1 =", "line = 11.3")
	wants(t, "P18.1", all+", ready 1", 11, "split 1 = no trail", "path 1 = no trail", "line = no trail")
}

// entries goes through entries of all kinds, and of some that are none, with fields at their least and greatest values, beside them, and far off.
func entries(tasks int, see func(e api.Trail)) {
	far := []int{math.MinInt, math.MaxInt}
	for _, kind := range append(far, -1, 0, 1, 2, 3, 4, 5, 6, 7, 8, 9, 10, 11, 12, 13) {
		for _, task := range append(far, -1, 0, 1, tasks-1, tasks, 11, 12) {
			for _, port := range append(far, -1, 0, 1, 3, 4) {
				for _, id := range append(far, -1, 0, 1, 2, 9999, 10000) {
					see(api.Trail{Kind: kind, Task: task, Port: port, Id: id})
				}
			}
		}
	}
}

// answersOf gives what all calls answer of a trail; a start that is none, and an id that may be in it or not.
func answersOf(l []api.Trail, id, tasks int) []api.Errno {
	g := line()
	_, _, split := program().split(l, id, tasks)
	_, path := program().path(l, id, tasks)
	_, way := program().line(l, tasks)
	prove := program().prove(g.Flow, api.Config{}, api.Config{}, api.Config{}, l, id, tasks)
	return []api.Errno{split, path, prove, way}
}

// TestEveryField: an entry alone in a trail can be just where the chapter's table says so.
func TestEveryField(t *testing.T) {
	const none = 7777
	for _, tasks := range []int{1, 2, 12} {
		met := map[bool]int{}
		entries(tasks, func(e api.Trail) {
			can := modelCan([]api.Trail{e}, tasks)
			met[can]++
			want := []api.Errno{api.ErrWitTrail, api.ErrWitTrail, api.ErrWitTrail, api.ErrWitTrail}
			if can {
				want = []api.Errno{api.ErrWitShot, api.ErrWitShot, api.ErrWitShot, api.OK}
			}
			// A life that begins at a shot of no life has no way to it.
			if can && e.Kind == api.TrailUp && e.Id > 0 {
				want[3] = api.ErrWitShot
			}
			if got := answersOf([]api.Trail{e}, none, tasks); !slices.Equal(got, want) {
				t.Errorf("P18.1: of %s with %d tasks Split, Path, Prove and Line answer %v, want %v", pen.TellTrail([]api.Trail{e}), tasks, got, want)
			}
		})
		if met[true] < 50 || met[false] < 50 {
			t.Errorf("entries that can be: %v", met)
		}
	}
}

// TestTheTable: the rows of the chapter's table, written out: what can be, and what can't.
func TestTheTable(t *testing.T) {
	can := "step 0.0, step 2.3, mark 0.0 1, mark 2.3 9999, copy 0 1, copy 2 9999, part 0 1, part 2 9999, trigger 1, trigger 9999, ready 1, ready 9999, complete 1, complete 9999, " +
		"abort 1, abort 9999, commit 0 0, commit 2 9223372036854775807, commit 1 10000, down, up 9999, up 0"
	cant := "{0 0 0 0}, {12 0 0 1}, {-1 0 0 1}, step -1.0, step 3.0, step 0.-1, step 0.4, {1 0 0 1}, {1 0 0 -1}, " +
		"mark -1.0 1, mark 3.0 1, mark 0.-1 1, mark 0.4 1, mark 0.0 0, mark 0.0 10000, copy -1 1, copy 3 1, {3 0 1 1}, {3 0 -1 1}, copy 0 0, copy 0 10000, part -1 1, part 3 1, {4 0 1 1}, {4 0 -1 1}, part 0 0, part 0 10000, " +
		"trigger 0, trigger 10000, {5 1 0 1}, {5 0 1 1}, {5 -1 0 1}, {5 0 -1 1}, ready 0, ready 10000, {6 1 0 1}, {6 0 1 1}, {6 -1 0 1}, {6 0 -1 1}, complete 0, complete 10000, {7 1 0 1}, {7 0 1 1}, {7 -1 0 1}, {7 0 -1 1}, " +
		"abort 0, abort 10000, {8 1 0 1}, {8 0 1 1}, {8 -1 0 1}, {8 0 -1 1}, commit -1 0, commit 3 0, {9 0 1 0}, {9 0 -1 0}, commit 0 -1, {10 1 0 0}, {10 0 1 0}, {10 0 0 1}, {10 -1 0 0}, {10 0 -1 0}, {10 0 0 -1}, " +
		"up -1, up 10000, {11 1 0 0}, {11 0 1 0}, {11 -1 0 0}, {11 0 -1 0}"
	for _, e := range pen.ReadTrail(can) {
		wants(t, "P18.1", pen.TellTrail([]api.Trail{e}), 3, "split 7 = no shot", "path 7 = no shot")
	}
	for _, e := range pen.ReadTrail(cant) {
		wants(t, "P18.1", pen.TellTrail([]api.Trail{e}), 3, "split 7 = no trail", "path 7 = no trail", "line = no trail")
	}
	wants(t, "P18.1", can, 3, "split 9999 = no trail", "split 2 = no shot", "line =")
}

// TestAnEntryThatCantBeIsAheadOfAll: wherever it stands, and whatever else is wrong.
func TestAnEntryThatCantBeIsAheadOfAll(t *testing.T) {
	trails := []string{
		"",
		"up 0, step 0.0, copy 0 1, part 0 1, ready 1, complete 1, commit 0 1, step 0.0, down, up 1, step 0.0, copy 0 2, ready 2, step 0.0",
		"ready 1, up 5, copy 0 1, copy 0 1, ready 2, up 9",
	}
	trail := "copy 0 1, "
	for range 2001 {
		trail += "step 0.0, "
	}
	trails = append(trails, trail+"ready 1, ready 2")
	for _, trail := range trails {
		l := pen.ReadTrail(trail)
		for at := 0; at <= len(l); at += 1 + len(l)/20 {
			for _, wrong := range pen.ReadTrail("{0 0 0 0}, {12 0 0 0}, step 1.0, {1 0 0 1}, ready 0, ready 10000, copy 1 1, up 10000, {10 0 0 1}, commit 0 -1") {
				bad := slices.Insert(slices.Clone(l), at, wrong)
				for _, id := range []int{1, 2, 3, 0, -1} {
					for k, e := range answersOf(bad, id, 1) {
						if e != api.ErrWitTrail {
							t.Fatalf("P18.1: with %s at %d of %.200s call %d for %d answers %s", pen.TellTrail([]api.Trail{wrong}), at, trail, k, id, errorTold(e))
						}
					}
				}
			}
		}
	}
}

// TestLives: which life is a snapshot's, and where it ends.
func TestLives(t *testing.T) {
	for _, x := range []struct {
		trail string
		tasks int
		want  []string
	}{
		// A life at the trail's beginning, with and without a TrailUp, and empty ones.
		{"step 0.0, copy 0 1, ready 1", 1, []string{"split 1 = 0.0 |", "line = 0.0"}},
		{"up 0, step 0.0, copy 0 1, ready 1", 1, []string{"split 1 = 0.0 |", "line = 0.0"}},
		{"up 0, up 0, up 0, step 0.0, copy 0 1, ready 1, up 0, up 0", 1, []string{"split 1 = 0.0 |", "line ="}},
		{"step 0.1, up 0, step 0.0, copy 0 1, ready 1", 1, []string{"split 1 = 0.0 |", "line = 0.0"}},
		{"step 0.1, down, up 0, step 0.0, copy 0 1, ready 1", 1, []string{"split 1 = 0.0 |", "line = 0.0"}},
		// What is down stays in the life, up to the next TrailUp.
		{"step 0.1, copy 0 1, down, step 0.2, ready 1, step 0.0", 1, []string{"split 1 = 0.1 | 0.2", "line = 0.1 0.2 0.0"}},
		// A number that is ready in two lives: the last counts; twice in one life: the first entry is the end.
		{"step 0.0, copy 0 1, ready 1, up 0, step 0.1, copy 0 1, step 0.2, ready 1", 1, []string{"split 1 = 0.1 | 0.2"}},
		{"step 0.0, copy 0 1, ready 1, up 0, step 0.1, copy 0 1, step 0.2", 1, []string{"split 1 = 0.0 |"}},
		{"step 0.0, copy 0 1, step 0.1, ready 1, step 0.2, ready 1", 1, []string{"split 1 = 0.0 | 0.1", "path 1 ="}},
		{"step 0.0, copy 0 1, step 0.1, ready 1, step 0.2, copy 0 1, ready 1, copy 0 1", 1, []string{"split 1 = 0.0 | 0.1", "path 1 ="}},
		{"copy 0 1, ready 1, ready 1, up 0, step 0.3, copy 0 1, ready 1, ready 1, up 0", 1, []string{"split 1 = 0.3 |"}},
		// The last life counts also where its copies are wrong, and an earlier one's are right.
		{"step 0.0, copy 0 1, ready 1, up 0, ready 1", 1, []string{"split 1 = no trail", "path 1 = no trail"}},
		{"ready 1, up 0, step 0.0, copy 0 1, ready 1", 1, []string{"split 1 = 0.0 |", "path 1 ="}},
		// Several snapshots in one life: each has its own copies and its own end.
		{"step 0.0, copy 0 1, step 0.1, ready 1, step 0.2, copy 0 2, step 0.3, ready 2", 1, []string{"split 1 = 0.0 | 0.1", "split 2 = 0.0 0.1 0.2 | 0.3"}},
		{"step 0.0, copy 0 2, step 0.1, copy 0 1, step 0.2, ready 1, step 0.3, ready 2", 1, []string{"split 1 = 0.0 0.1 | 0.2", "split 2 = 0.0 | 0.1 0.2 0.3"}},
		{"step 0.0, copy 0 1, abort 1, trigger 2, copy 0 2, complete 1, complete 2", 1, []string{"split 1 = no shot", "split 2 = no shot"}},
	} {
		wants(t, "P18.2", x.trail, x.tasks, x.want...)
	}
}

// TestCopies: each task must have just one, of that number, in that life, ahead of the end.
func TestCopies(t *testing.T) {
	bad := []string{"split 1 = no trail", "path 1 = no trail"}
	for _, trail := range []string{
		"ready 1", "step 0.0, step 1.0, ready 1",
		"copy 0 1, ready 1", "copy 1 1, ready 1",
		"copy 0 1, copy 0 1, ready 1", "copy 0 1, copy 1 1, copy 0 1, ready 1", "copy 1 1, copy 0 1, copy 1 1, ready 1", "copy 0 1, copy 1 1, copy 0 1, copy 1 1, ready 1",
		"copy 0 1, ready 1, copy 1 1", "ready 1, copy 0 1, copy 1 1", "copy 1 1, ready 1, copy 0 1, ready 1",
		"copy 0 1, copy 1 2, ready 1", "copy 0 2, copy 1 2, ready 1", "copy 0 10, copy 1 11, ready 1",
		"copy 0 1, up 0, copy 1 1, ready 1", "copy 0 1, copy 1 1, up 0, ready 1", "copy 0 1, ready 1, up 0, copy 1 1", "ready 1, up 0, copy 0 1, copy 1 1",
		"copy 0 1, mark 1.0 1, part 1 1, ready 1", "copy 0 1, part 0 1, part 1 1, ready 1",
	} {
		wants(t, "P18.3", trail, 2, bad...)
		wants(t, "P18.3", trail+", up 1", 2, "line = no trail")
		wants(t, "P18.3", trail+", up 0, step 1.2", 2, "line = 1.2")
	}
	for _, trail := range []string{
		"step 0.0, copy 0 1, step 1.0, copy 1 1, step 0.1, ready 1", "step 0.0, step 1.0, copy 1 1, step 0.1, copy 0 1, ready 1",
		"step 0.0, copy 0 1, step 1.0, copy 1 1, ready 1, copy 0 1, copy 1 1, copy 1 1, step 0.1", "copy 0 2, copy 0 2, step 0.0, copy 0 1, step 1.0, copy 1 3, copy 1 1, ready 1",
		"copy 0 1, copy 0 1, up 0, step 0.0, copy 0 1, step 1.0, copy 1 1, ready 1, up 0, copy 0 1", "step 0.0, copy 0 1, part 0 1, part 0 1, step 1.0, copy 1 1, ready 1",
	} {
		before, _, e := program().split(pen.ReadTrail(trail), 1, 2)
		if e != api.OK || len(before) < 2 {
			t.Errorf("P18.3: of %s Split answers %s", trail, told(e, pen.TellEvents(before)))
		}
	}
	wants(t, "P18.3", "copy 0 1, copy 1 1, copy 2 1, ready 1", 2, "split 1 = no trail")
	wants(t, "P18.3", "copy 0 1, copy 1 1, ready 1", 3, "split 1 = no trail", "path 1 = no trail")
}
