package shape_test

import (
	"iter"
	"math"
	"slices"
	"testing"

	"eddy/api"
	"eddy/shape"
)

func TestReach(t *testing.T) {
	p := made(1, "s:source t:tee m:map k:sink l:sink r:source n:sink", "s.0>t.0 t.0>m.0 m.0>k.0 t.1>l.0 r.0>n.0")
	for from, want := range map[int]string{0: "stmkl", 1: "tmkl", 2: "mk", 3: "k", 4: "l", 5: "rn", 6: "n"} {
		got := ""
		for task, reached := range shape.Reach(p, from) {
			if reached {
				got += p.Tasks[task].Name
			}
		}
		if got != want || len(shape.Reach(p, from)) != 7 {
			t.Errorf("P7.5: Reach from %d answers %s, want %s", from, got, want)
		}
	}
	agreesOnWays(t, p)
	// Over back edges too, and each of a loop's tasks reaches itself and all others.
	for from, want := range [][]bool{{true, true, true, true}, {false, true, true, true}, {false, true, true, true}, {false, false, false, true}} {
		if got := shape.Reach(loop(), from); !slices.Equal(got, want) {
			t.Errorf("P7.5: Reach of the loop from %d answers %v, want %v", from, got, want)
		}
	}
}

func TestWalks(t *testing.T) {
	for _, c := range []struct {
		why  string
		p    api.Plan
		from int
		want []step
	}{
		{"the loop from its source", loop(), 0, []step{{0, 0}, {1, 1}, {2, 2}, {3, 3}}},
		{"the loop from its head", loop(), 1, []step{{1, 0}, {2, 1}, {3, 2}}},
		{"the loop from its tail: a back edge is one edge", loop(), 2, []step{{2, 0}, {1, 1}, {3, 1}}},
		{"the loop from its sink", loop(), 3, []step{{3, 0}}},
		{"the least number first, whatever the ports", made(1, "k:sink t:tee l:sink s:source m:sink n:sink", "s.0>t.0 t.0>n.0 t.1>l.0 t.2>m.0 t.3>k.0"), 3, []step{{3, 0}, {1, 1}, {0, 2}, {2, 2}, {4, 2}, {5, 2}}},
		{"the shortest way", made(1, "s:source t:tee u:union k:sink m:map n:map", "s.0>t.0 t.0>u.1 t.1>m.0 m.0>n.0 n.0>u.0 u.0>k.0"), 0, []step{{0, 0}, {1, 1}, {2, 2}, {4, 2}, {3, 3}, {5, 3}}},
		{"the least number of a distance, whichever task leads to it", made(1, "a:sink b:sink o:tee u:tee s:source t:tee c:sink", "s.0>t.0 t.0>u.0 t.1>o.0 o.0>b.0 u.0>a.0 u.1>c.0"), 4, []step{{4, 0}, {5, 1}, {2, 2}, {3, 2}, {0, 3}, {1, 3}, {6, 3}}},
		{"each once, over edges side by side", bundles(4, 3), 0, []step{{0, 0}, {1, 1}, {2, 2}, {3, 3}, {4, 4}, {5, 5}}},
		{"to a head that doesn't reach its tail", made(1, "h:head a:source b:source t:tail k:sink l:sink", "a.0>h.0 b.0>t.0 t.0>h.1 t.1>k.0 h.0>l.0"), 2, []step{{2, 0}, {3, 1}, {0, 2}, {4, 2}, {5, 3}}},
		{"as far as it goes", chain(12), 0, []step{{0, 0}, {1, 1}, {2, 2}, {3, 3}, {4, 4}, {5, 5}, {6, 6}, {7, 7}, {8, 8}, {9, 9}, {10, 10}, {11, 11}}},
	} {
		if got := steps(c.p, c.from); !slices.Equal(got, c.want) {
			t.Errorf("P7.6: %s: %v, want %v", c.why, got, c.want)
		}
		agreesOnWays(t, c.p)
	}
}

func TestWaysFromNoTask(t *testing.T) {
	for _, p := range []api.Plan{loop(), chain(2), chain(12), bundles(4, 4, 4, 4, 2)} {
		for _, from := range append(wrongTasks(p), 1<<32, -1<<32, math.MinInt+1, math.MaxInt-1) {
			wantNoWay(t, p, from)
		}
	}
}

func TestWaysOfPlansThatAreNot(t *testing.T) {
	for _, b := range blows() {
		p := manyTasks()
		b.strike(&p)
		for from := -2; from < 12; from++ {
			wantNoWay(t, p, from)
		}
	}
	for _, from := range []int{-1, 0, 1} {
		wantNoWay(t, api.Plan{}, from)
		wantNoWay(t, api.Plan{Cap: 1}, from)
	}
}

// TestAWalkThatIsLeft: at each of its places, by a yield that tells how often it was asked.
func TestAWalkThatIsLeft(t *testing.T) {
	for seed := range 300 {
		p := seeded(seed).plan()
		from := seed % len(p.Tasks)
		_, want := modelWays(p, from)
		walk := shape.Walk(p, from)
		for stop := 1; stop <= len(want)+1; stop++ {
			var got []step
			walk(func(task, distance int) bool {
				got = append(got, step{task, distance})
				return len(got) < stop
			})
			if !slices.Equal(got, want[:min(stop, len(want))]) {
				t.Errorf("P7.6: %s: a walk from %d that is left at its place %d gives %v, want %v", drawn(p), from, stop, got, want[:min(stop, len(want))])
			}
		}
		// Leaving it has changed nothing.
		if got := collected(walk); !slices.Equal(got, want) {
			t.Errorf("P7.6: %s: a walk from %d that was left gives %v then, want %v", drawn(p), from, got, want)
		}
	}
}

func collected(walk iter.Seq2[int, int]) []step {
	var all []step
	for task, distance := range walk {
		all = append(all, step{task, distance})
	}
	return all
}

// TestAWalkWithinItself: one walk gone through again and again, and at each place of it gone through again, wholly and in part.
func TestAWalkWithinItself(t *testing.T) {
	for seed := range 60 {
		p := seeded(seed).plan()
		for from := range p.Tasks {
			_, want := modelWays(p, from)
			walk := shape.Walk(p, from)
			for range 2 {
				var outer []step
				for task, distance := range walk {
					outer = append(outer, step{task, distance})
					if inner := collected(walk); !slices.Equal(inner, want) {
						t.Fatalf("P7.6: %s: a walk from %d within itself gives %v, want %v", drawn(p), from, inner, want)
					}
					for range walk {
						break
					}
				}
				if !slices.Equal(outer, want) {
					t.Fatalf("P7.6: %s: a walk from %d around itself gives %v, want %v", drawn(p), from, outer, want)
				}
			}
		}
	}
}

// TestWalksSideBySide: two goings through one walk, step by step by turns, one of them farther; and one that is given up halfway.
func TestWalksSideBySide(t *testing.T) {
	for seed := range 60 {
		p := seeded(seed).plan()
		from := seed % len(p.Tasks)
		_, want := modelWays(p, from)
		walk := shape.Walk(p, from)
		nextA, stopA := iter.Pull2(walk)
		nextB, stopB := iter.Pull2(walk)
		nextC, stopC := iter.Pull2(walk)
		var a, b []step
		nextC()
		for range len(want) + 1 {
			if task, distance, ok := nextA(); ok {
				a = append(a, step{task, distance})
			}
			stopC()
			if task, distance, ok := nextB(); ok {
				b = append(b, step{task, distance})
			}
		}
		stopA()
		stopB()
		if !slices.Equal(a, want) || !slices.Equal(b, want) {
			t.Errorf("P7.6: %s: two walks from %d side by side give %v and %v, want %v", drawn(p), from, a, b, want)
		}
	}
}

// TestAWalkWhosePlanIsChanged: behind the call of Walk, ahead of the first step and at each of its places.
func TestAWalkWhosePlanIsChanged(t *testing.T) {
	for seed := range 200 {
		whole := seeded(seed).plan()
		from := seed % len(whole.Tasks)
		_, want := modelWays(whole, from)
		for place := range len(want) + 1 {
			p := clone(whole)
			walk := shape.Walk(p, from)
			if place == len(want) {
				spoilPlan(p)
			}
			var got []step
			for task, distance := range walk {
				if len(got) == place {
					spoilPlan(p)
				}
				got = append(got, step{task, distance})
			}
			if !slices.Equal(got, want) || !slices.Equal(collected(walk), want) {
				t.Errorf("P7.6: a walk of %s from %d, whose plan is changed at place %d, gives %v, want %v", drawn(whole), from, place, got, want)
			}
			// The other way round a walk of what was no valid plan stays empty.
			none := shape.Walk(p, from)
			copy(p.Tasks, whole.Tasks)
			copy(p.Edges, whole.Edges)
			if got := collected(none); len(got) != 0 {
				t.Errorf("P7.6: a walk of a plan that wasn't valid gives %v", got)
			}
		}
	}
}

// spoilPlan writes over a plan's lists.
func spoilPlan(p api.Plan) {
	for k := range p.Edges {
		p.Edges[k] = api.Edge{From: 7777, Out: -1, To: -7777, In: 9}
	}
	for k := range p.Tasks {
		for j := range p.Tasks[k].Exprs {
			p.Tasks[k].Exprs[j] = "spoilt"
		}
		p.Tasks[k] = api.Task{Name: "SPOILT", Kind: 7777}
	}
}
