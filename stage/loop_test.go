package stage_test

import (
	"fmt"
	"slices"
	"strconv"
	"testing"

	"eddy/api"
)

func TestAHeadAtItsPorts(t *testing.T) {
	of(t, api.Head, 0).runs(t, "P8.15", "0",
		move{0, "a=1", "0", "0 a=1@0"},
		move{0, "a=1@4", "0", "0 a=1@4@0"},
		move{0, "a=1@4@2", "0", "0 a=1@4@2@0"},
		move{0, "a=1@4@2@1", "0", "0 a=1@4@2@1"},
		move{0, "a=[none]@0@0", "0", "0 a=[none]@0@0@0"},
		move{1, "a=1", "0", "0 a=1"},
		move{1, "a=1@4", "0", "0 a=1@4"},
		move{1, "a=1@4@2", "0", "0 a=1@4@2"},
		move{1, "a=1@4@2@1", "0", "0 a=1@4@2@1"})
}

func TestATailsExample(t *testing.T) {
	of(t, api.Tail, 2, "0").runs(t, "P8.16", "0",
		move{0, "a=1@4@0", "0", "0 a=1@4@1"},
		move{0, "a=1@4@2", "0", "1 a=1@4"},
		move{0, "a=1", "0", "0 a=1@1"},
		move{0, "a=1@9", "0", "1 a=1"})
	of(t, api.Tail, 0, "0").runs(t, "P8.16", "0", move{0, "a=1", "0", "1 a=1"}, move{0, "a=1@0", "0", "1 a=1"}, move{0, "a=1@3@0", "0", "1 a=1@3"})
}

// TestATailAtItsBound: every M with every last counter, with none, one and two counters ahead of it, over every truth of COND.
func TestATailAtItsBound(t *testing.T) {
	for most := 0; most <= api.MaxHops; most++ {
		for _, c := range truths() {
			g := of(t, api.Tail, most, c.text)
			for last := 0; last <= api.MaxHops; last++ {
				for _, ahead := range []string{"", "@5", "@9@0"} {
					in := rec("k=[7]" + ahead + "@" + strconv.Itoa(last))
					want := fmt.Sprintf("0 k=[7]%s@%d", ahead, last+1)
					if c.true || last+1 > most {
						want = "1 k=[7]" + ahead
					}
					g.wants(t, "P8.16", api.State{}, 0, in, api.State{}, sends(want))
				}
			}
			want := "0 k=[7]@1"
			if c.true || most == 0 {
				want = "1 k=[7]"
			}
			g.wants(t, "P8.16", api.State{}, 0, rec("k=[7]"), api.State{}, sends(want))
		}
	}
}

// TestATailsCondition: it is worked out over the record with the new counter as its last one.
func TestATailsCondition(t *testing.T) {
	of(t, api.Tail, 9, "hops==2").runs(t, "P8.16", "0",
		move{0, "a=1@0", "0", "0 a=1@1"},
		move{0, "a=1@1", "0", "1 a=1"},
		move{0, "a=1@2", "0", "0 a=1@3"},
		move{0, "a=1@2@1", "0", "1 a=1@2"},
		move{0, "a=1@2@2", "0", "0 a=1@2@3"},
		move{0, "a=1@2@2@1", "0", "1 a=1@2@2"},
		move{0, "a=1", "0", "0 a=1@1"})
	of(t, api.Tail, 9, "hops==1").runs(t, "P8.16", "0",
		move{0, "a=1", "0", "1 a=1"},
		move{0, "a=1@0", "0", "1 a=1"},
		move{0, "a=1@1", "0", "0 a=1@2"},
		move{0, "a=1@9", "0", "1 a=1"})
	of(t, api.Tail, 9, `val+hops==5 and key=="a" and acc==none`).runs(t, "P8.16", "0",
		move{0, "a=3@1", "0", "1 a=3"},
		move{0, "b=3@1", "0", "0 b=3@2"},
		move{0, "a=4@1", "0", "0 a=4@2"},
		move{0, "a=4", "0", "1 a=4"})
}

// TestGoingRound: a record into a head, and from the tail's port 0 always back: it comes out of port 1 with the counters that it came with, behind at most M + 1 steps of the tail.
func TestGoingRound(t *testing.T) {
	h := of(t, api.Head, 0)
	for most := 0; most <= api.MaxHops; most++ {
		for stop := 0; stop <= api.MaxHops+1; stop++ {
			g := of(t, api.Tail, most, "hops=="+strconv.Itoa(stop))
			for _, loops := range [][]int{nil, {0}, {3}, {9}, {0, 9}, {9, 9}, {2, 2}} {
				first := api.Record{Key: "k", Val: num(int64(stop)), Loops: loops}
				steps, last := round(t, h, g, first)
				if !same(last, first) {
					t.Errorf("P8.21: %v: %s comes out as %s", g, tell(first), tell(last))
				}
				want := most + 1
				if stop >= 1 && stop < want {
					want = stop
				}
				if steps != want {
					t.Errorf("P8.21: %v: %s comes out behind %d steps of the tail, want %d", g, tell(first), steps, want)
				}
			}
			for last := 0; last <= api.MaxHops; last++ {
				first := api.Record{Loops: []int{1, 2, last}}
				steps, out := round(t, h, g, first)
				if steps > most+1 || !slices.Equal(out.Loops, []int{1, 2}) {
					t.Errorf("P8.21: %v: %s comes out as %s behind %d steps", g, tell(first), tell(out), steps)
				}
			}
		}
	}
}

// round lets a record go through a head and a tail till it comes out, and counts the steps of the tail.
func round(t *testing.T, h, g tried, r api.Record) (int, api.Record) {
	t.Helper()
	for steps := 1; steps <= 20; steps++ {
		_, out, e := h.Step(api.State{}, min(steps-1, 1), r)
		if e != api.OK || len(out) != 1 || out[0].Out != 0 {
			t.Fatalf("P8.15: a head at %s answers %s, error %d", tell(r), tell(out), e)
		}
		_, back, e := g.Step(api.State{}, 0, out[0].Rec)
		if e != api.OK || len(back) != 1 {
			t.Fatalf("P8.16: %v at %s answers %s, error %d", g, tell(out[0].Rec), tell(back), e)
		}
		if r = back[0].Rec; back[0].Out == 1 {
			return steps, r
		}
	}
	t.Fatalf("P8.21: %v: a record doesn't come out", g)
	return 0, r
}
