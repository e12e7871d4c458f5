package witness_test

import (
	"math"
	"slices"
	"strconv"
	"strings"
	"testing"

	"eddy/api"
	"eddy/pen"
)

// TestSplit: events of each task on both sides of its copy, and numbers that are nowhere ready.
func TestSplit(t *testing.T) {
	for _, x := range []struct {
		trail string
		tasks int
		want  string
	}{
		{"copy 0 1, ready 1", 1, "|"},
		{"step 0.0, step 0.1, copy 0 1, step 0.2, step 0.3, ready 1, step 0.0", 1, "0.0 0.1 | 0.2 0.3"},
		{"step 0.0, copy 0 1, ready 1", 1, "0.0 |"},
		{"copy 0 1, step 0.0, ready 1", 1, "| 0.0"},
		{"step 0.0, copy 0 1, step 1.0, step 0.1, copy 2 1, step 2.0, step 1.1, copy 1 1, step 1.2, ready 1", 3, "0.0 1.0 1.1 | 0.1 2.0 1.2"},
		{"step 2.3, step 1.0, step 0.0, step 2.3, copy 2 1, step 2.3, step 1.0, copy 0 1, step 0.0, step 1.0, copy 1 1, step 2.3, ready 1", 3, "2.3 1.0 0.0 2.3 1.0 1.0 | 2.3 0.0 2.3"},
		{"step 0.0, trigger 1, mark 0.0 1, copy 0 1, part 0 1, step 0.1, complete 5, abort 3, commit 0 5, down, step 0.2, ready 1", 1, "0.0 | 0.1 0.2"},
		{"step 0.0, mark 0.0 1, step 0.1, part 0 1, step 0.2, trigger 1, step 0.3, copy 0 1, ready 1", 1, "0.0 0.1 0.2 0.3 |"},
	} {
		wants(t, "P18.4", x.trail, x.tasks, "split 1 = "+x.want)
	}
	for _, id := range []int{0, -1, 3, 9998, 10000, math.MinInt, math.MaxInt} {
		number := strconv.Itoa(id)
		wants(t, "P18.4", "copy 0 1, ready 1, copy 0 2, ready 2, up 9998, trigger 3, copy 0 3, part 0 3, complete 3, abort 3, commit 0 3", 1, "split "+number+" = no shot", "path "+number+" = no shot")
	}
	wants(t, "P18.4", "step 0.0, copy 0 9999, ready 9999", 1, "split 9999 = 0.0 |", "path 9999 =")
}

// TestLine: ways over one life and more.
func TestLine(t *testing.T) {
	for _, x := range []struct {
		trail string
		tasks int
		want  string
	}{
		// Of the last life all steps count.
		{"", 1, ""}, {"up 0", 12, ""}, {"down", 1, ""},
		{"step 0.0, step 1.3, step 0.2", 2, "0.0 1.3 0.2"},
		{"step 0.0, trigger 1, mark 0.0 1, copy 0 1, step 0.1, part 0 1, ready 1, step 0.2, abort 1, down, step 0.3", 1, "0.0 0.1 0.2 0.3"},
		// It began at the beginning: what was earlier is lost.
		{"step 0.0, up 0, step 0.1", 1, "0.1"},
		{"step 0.0, copy 0 1, ready 1, complete 1, up 0, step 0.1", 1, "0.1"},
		{"step 0.0, up 0, step 0.1, up 0", 1, ""},
		// It began at a shot of an earlier life, the one ahead of it or another.
		{"step 0.0, copy 0 1, step 0.1, ready 1, step 0.2, up 1, step 0.3", 1, "0.0 0.3"},
		{"step 0.0, copy 0 1, step 0.1, ready 1, step 0.2, up 1", 1, "0.0"},
		{"step 0.0, copy 0 1, ready 1, up 0, step 0.1, copy 0 2, ready 2, up 1, step 0.3", 1, "0.0 0.3"},
		{"step 0.0, copy 0 1, ready 1, up 1, step 0.1, up 1, step 0.2, up 1, step 0.3", 1, "0.0 0.3"},
		{"step 0.0, copy 0 1, step 1.0, step 0.1, copy 1 1, step 1.1, ready 1, step 0.2, up 1, step 1.2, step 0.3", 2, "0.0 1.0 1.2 0.3"},
		// A number that is ready in several lives: the last one ahead counts, and its first end.
		{"step 0.0, copy 0 1, ready 1, up 0, step 0.1, copy 0 1, ready 1, up 1, step 0.2", 1, "0.1 0.2"},
		{"step 0.0, copy 0 1, ready 1, up 1, step 0.1, copy 0 1, ready 1, up 1, step 0.2", 1, "0.0 0.1 0.2"},
		{"step 0.0, copy 0 1, ready 1, step 0.1, copy 0 1, ready 1, up 1, step 0.2", 1, "0.0 0.2"},
		{"step 0.0, copy 0 1, ready 1, up 1, step 0.1, copy 0 1, ready 1", 1, "0.0 0.1"},
		// Ways over three lives and more.
		{"step 0.0, copy 0 1, step 0.3, ready 1, up 1, step 0.1, copy 0 2, step 0.3, ready 2, up 2, step 0.2, copy 0 3, ready 3, step 0.3, up 3, step 0.0", 1, "0.0 0.1 0.2 0.0"},
		{"step 0.0, copy 0 5, ready 5, up 5, step 0.1, copy 0 3, ready 3, up 3, step 0.2, copy 0 4, ready 4, up 4, step 0.3", 1, "0.0 0.1 0.2 0.3"},
		{"up 0, step 0.0, copy 0 1, ready 1, down, up 0, step 0.3, down, up 1, step 0.1, copy 0 2, ready 2, down, up 1, step 0.3, down, up 2, step 0.2", 1, "0.0 0.1 0.2"},
		{"step 0.0, copy 0 1, ready 1, up 1, copy 0 2, ready 2, up 2, copy 0 3, ready 3, up 3, copy 0 4, ready 4, up 4", 1, "0.0"},
		// At a shot that is ready nowhere, or only in the life itself or a later one.
		{"up 1", 1, "no shot"}, {"up 9999, step 0.0", 1, "no shot"},
		{"step 0.0, copy 0 1, ready 1, up 2, step 0.1", 1, "no shot"},
		{"copy 0 1, complete 1, trigger 1, up 1, step 0.1", 1, "no shot"},
		{"up 1, step 0.0, copy 0 1, ready 1", 1, "no shot"},
		{"up 1, step 0.0, copy 0 2, ready 2, up 2, copy 0 1, ready 1", 1, "no shot"},
		{"up 1, copy 0 1, ready 1, up 1, step 0.0", 1, "no shot"},
		{"up 2, copy 0 1, ready 1, up 1, copy 0 2, ready 2, up 2", 1, "no shot"},
		// What isn't needed may be wrong.
		{"ready 1, up 0, copy 0 1, copy 0 1, ready 1, up 7, step 0.3, up 0, step 0.0", 1, "0.0"},
		{"ready 2, up 9, copy 0 1, copy 0 1, ready 3, up 0, step 0.0, copy 0 1, ready 1, ready 3, up 5, step 0.1, up 1, step 0.2", 1, "0.0 0.2"},
		{"step 0.0, copy 0 1, ready 1, copy 0 1, ready 1, up 1, copy 0 2, copy 0 2, ready 2", 1, "0.0"},
		// Copies that are wrong in a life that is needed, the last one or an earlier one.
		{"ready 1, up 1", 1, "no trail"}, {"copy 0 1, copy 0 1, ready 1, up 1", 1, "no trail"}, {"copy 0 1, ready 1, up 1", 2, "no trail"},
		{"copy 0 1, ready 1, up 0, ready 1, up 1", 1, "no trail"},
		{"ready 1, up 1, copy 0 2, ready 2, up 2", 1, "no trail"},
		{"copy 0 1, up 1, ready 1, up 1", 1, "no trail"},
		// The first error that is met from the last life back.
		{"up 9, ready 1, up 1", 1, "no trail"}, {"up 9, copy 0 1, ready 1, up 1", 1, "no shot"},
		{"ready 3, up 3, copy 0 2, ready 2, up 2, copy 0 1, ready 1, up 1", 1, "no trail"},
		{"ready 3, up 4, copy 0 2, ready 2, up 2, copy 0 1, ready 1, up 1", 1, "no shot"},
		{"up 9, copy 0 2, ready 2, up 2, ready 1, up 1", 1, "no trail"},
		{"up 9, ready 2, up 2, copy 0 1, ready 1, up 1", 1, "no trail"},
		{"ready 2, up 2, copy 0 1, ready 1, up 3", 1, "no shot"},
	} {
		wants(t, "P18.5", x.trail, x.tasks, "line = "+x.want)
	}
}

// TestCopiesAreCountedFromLifeToLife: copies of one number in one life aren't counted in another, whatever lives were read ahead of it.
func TestCopiesAreCountedFromLifeToLife(t *testing.T) {
	var l []string
	want := ""
	for life := range 40 {
		id := strconv.Itoa(life%3 + 1)
		l = append(l, "step 0."+strconv.Itoa(life%4), "copy 0 "+id, "step 1.0", "copy 1 "+id, "step 0.0", "ready "+id, "up "+id)
		want += " 0." + strconv.Itoa(life%4) + " 1.0"
	}
	wants(t, "P18.5", strings.Join(l, ", "), 2, "line ="+want)
	l[7*20+1] = "copy 0 99"
	wants(t, "P18.5", strings.Join(l, ", "), 2, "line = no trail")
	l[7*20+1], l[7*21+1], l[7*21+3] = "copy 0 3", "copy 0 1, copy 0 1", "down"
	wants(t, "P18.5", strings.Join(l, ", "), 2, "line = no trail")
}

// TestPath: no exchanges, some, and several orders.
func TestPath(t *testing.T) {
	for _, x := range []struct {
		trail string
		tasks int
		want  string
	}{
		{"copy 0 1, ready 1", 1, ""},
		{"step 0.0, copy 0 1, step 0.1, ready 1", 1, ""},
		{"step 0.0, step 1.0, copy 0 1, copy 1 1, step 1.0, step 0.0, ready 1", 2, ""},
		{"copy 0 1, step 0.0, step 1.0, copy 1 1, ready 1", 2, "0"},
		{"step 1.0, copy 0 1, step 0.0, step 1.0, copy 1 1, ready 1", 2, "1"},
		{"copy 0 1, step 0.0, step 1.0, copy 1 1, step 0.0, step 1.0, ready 1", 2, "0"},
		{"copy 0 1, step 0.0, step 1.0, step 0.0, step 1.0, copy 1 1, ready 1", 2, "0 2 1"},
		{"copy 0 1, step 0.0, step 0.0, step 0.0, step 1.0, copy 1 1, ready 1", 2, "2 1 0"},
		{"copy 0 1, step 0.0, step 1.0, step 1.0, step 1.0, copy 1 1, ready 1", 2, "0 1 2"},
		{"copy 0 1, step 0.0, step 1.0, copy 1 1, step 1.0, step 0.0, step 2.0, step 2.1, copy 2 1, ready 1", 3, "0 3 2 1 4 3 2"},
		// Events that look alike on both sides of the copy, and ports that differ.
		{"step 0.0, copy 0 1, step 0.0, step 1.0, step 0.0, step 1.0, copy 1 1, step 1.0, ready 1", 2, "1 3 2"},
		{"step 0.1, step 0.0, copy 0 1, step 0.1, step 1.0, step 1.1, copy 1 1, ready 1", 2, "2 3"},
		// What stands behind the end, or in another life, isn't looked at.
		{"copy 0 1, step 0.0, up 0, copy 0 1, step 0.0, step 1.0, copy 1 1, ready 1, step 0.0, step 1.0, up 0, step 0.0", 2, "0"},
	} {
		wants(t, "P18.6", x.trail, x.tasks, "path 1 = "+x.want)
	}
}

// many gives a trail of two tasks: so many after events, and behind them so many before events.
func many(after, before int) []api.Trail {
	l := pen.ReadTrail("copy 0 1")
	l = append(l, slices.Repeat(pen.ReadTrail("step 0.0"), after)...)
	l = append(l, slices.Repeat(pen.ReadTrail("step 1.0"), before)...)
	return append(l, pen.ReadTrail("copy 1 1, ready 1")...)
}

// TestPathOfMany: as many exchanges as there can be, and how many events there may be.
func TestPathOfMany(t *testing.T) {
	for _, x := range [][2]int{{1, 1999}, {1999, 1}, {1000, 1000}, {2000, 0}, {0, 2000}, {1500, 500}, {30, 40}} {
		after, before := x[0], x[1]
		places, e := program().path(many(after, before), 1, 2)
		if e != api.OK || len(places) != after*before {
			t.Fatalf("P18.6: %d after and %d before: %d places, %s", after, before, len(places), errorTold(e))
		}
		for k, place := range places {
			// Event number n of the before ones comes down from behind all after events.
			if n := k / after; place != after+n-1-k%after {
				t.Fatalf("P18.6: %d after and %d before: exchange %d is at %d", after, before, k, place)
			}
		}
	}
	for _, x := range [][2]int{{1, 2000}, {2000, 1}, {1000, 1001}, {2001, 0}, {0, 2001}, {5000, 5000}} {
		if places, e := program().path(many(x[0], x[1]), 1, 2); e != api.ErrWitRun || len(places) > 0 {
			t.Errorf("P18.6: %d after and %d before: %d places, %s", x[0], x[1], len(places), errorTold(e))
		}
		before, after, e := program().split(many(x[0], x[1]), 1, 2)
		if e != api.OK || len(after) != x[0] || len(before) != x[1] {
			t.Errorf("P18.4: %d after and %d before: Split tells %d and %d, %s", x[0], x[1], len(after), len(before), errorTold(e))
		}
	}
}

// TestErrorsAheadOfTooManyEvents: and events that aren't counted.
func TestErrorsAheadOfTooManyEvents(t *testing.T) {
	long := many(1000, 1001)
	last := len(long) - 1
	for _, x := range []struct {
		what string
		l    []api.Trail
		id   int
		want api.Errno
	}{
		{"an entry that can't be", append(slices.Clone(long), api.Trail{}), 1, api.ErrWitTrail},
		{"no such snapshot", long, 2, api.ErrWitShot},
		{"no copy", slices.Delete(slices.Clone(long), 0, 1), 1, api.ErrWitTrail},
		{"a copy too many", slices.Insert(slices.Clone(long), last, long[0]), 1, api.ErrWitTrail},
		{"nothing else", long, 1, api.ErrWitRun},
		{"behind the end", slices.Insert(slices.Clone(long), 2, pen.ReadTrail("copy 1 1, ready 1")...), 1, api.OK},
		{"in a life ahead", append(slices.Clone(long), pen.ReadTrail("up 0, copy 0 1, copy 1 1, ready 1")...), 1, api.OK},
		{"in a life behind", append(pen.ReadTrail("copy 0 2, copy 1 2, ready 2, up 2"), long...), 2, api.OK},
		{"beside other entries", slices.Insert(many(1000, 1000), 5, slices.Repeat(pen.ReadTrail("mark 0.0 1, part 0 1, commit 1 0, down"), 1000)...), 1, api.OK},
	} {
		if _, e := program().path(x.l, x.id, 2); e != x.want {
			t.Errorf("P18.6: too many events, %s: Path answers %s, want %s", x.what, errorTold(e), errorTold(x.want))
		}
	}
}
