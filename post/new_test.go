package post_test

import (
	"math"
	"testing"

	"eddy/api"
	"eddy/post"
)

// news wants an error of New, and no coordinator beside it.
func news(t *testing.T, k kind, want api.Errno) {
	t.Helper()
	p, e := post.New(k.tasks, k.first, k.sum)
	if e != want || (p == nil) != (want != api.OK) {
		t.Errorf("P14.1: %v answers error %d and a coordinator: %v, want error %d", k, e, p != nil, want)
	}
}

var sums = []uint32{0, 1, 99, 1 << 31, math.MaxUint32}

func TestNewTasks(t *testing.T) {
	for _, sum := range sums {
		for tasks := 1; tasks <= 12; tasks++ {
			news(t, kind{tasks, 1, sum}, api.OK)
		}
		for _, tasks := range []int{0, 13, -1, -12, 14, 255, 256, 257, math.MinInt, math.MaxInt, 1<<32 + 1} {
			news(t, kind{tasks, 1, sum}, api.ErrPostNew)
		}
	}
}

func TestNewFirst(t *testing.T) {
	for _, sum := range sums {
		for _, first := range []int{1, 2, 7, 5000, 9998, 9999, 10000} {
			news(t, kind{2, first, sum}, api.OK)
		}
		for _, first := range []int{0, -1, -9999, 10001, 10002, 20000, math.MinInt, math.MaxInt, 1<<32 + 1} {
			news(t, kind{2, first, sum}, api.ErrPostNew)
		}
	}
}

// TestNewAll: tasks and first together: one that may be doesn't heal the other.
func TestNewAll(t *testing.T) {
	for tasks := -2; tasks <= 15; tasks++ {
		for _, first := range []int{-1, 0, 1, 2, 9999, 10000, 10001, 10002} {
			want := api.ErrPostNew
			if 1 <= tasks && tasks <= 12 && 1 <= first && first <= 10000 {
				want = api.OK
			}
			news(t, kind{tasks, first, 5}, want)
		}
	}
}

// TestANewCoordinator: nothing is under way, nothing waits, of no number anything is known, and the next number is first.
func TestANewCoordinator(t *testing.T) {
	for tasks := 1; tasks <= 12; tasks++ {
		for _, first := range []int{1, 2, 7, 9999} {
			k := kind{tasks, first, 3}
			p := k.open(t)
			for _, id := range []int{0, -1, 1, first - 1, first, first + 1, 9999, 10000, math.MinInt, math.MaxInt} {
				if s := p.Status(id); s != 0 {
					t.Errorf("P14.1, P14.7: %v: the status of %d is %d", k, id, s)
				}
				if e := p.Settle(id, true); e != api.ErrPostReady {
					t.Errorf("P14.6: %v: Settle(%d, true) answers error %d", k, id, e)
				}
				if e := p.Hand(id, 0, part("A")); e != api.ErrPostOther {
					t.Errorf("P14.3: %v: Hand(%d, 0, A) answers error %d", k, id, e)
				}
			}
			for _, c := range []struct{ call, want string }{{"open", "0"}, {"pick", "0"}, {"abort", "none"}} {
				if got := called(c.call).told(called(c.call).of(p)); got != c.want {
					t.Errorf("P14.1: %v: %s answers %s", k, c.call, got)
				}
			}
			if id, e := p.Trigger(); id != first || e != api.OK {
				t.Errorf("P14.1, P14.2: %v: the first number is %d, error %d", k, id, e)
			}
		}
	}
}
