package kinds_test

import (
	"math"
	"testing"

	"eddy/kinds"
)

func TestOf(t *testing.T) {
	// By kind, from 1 on: in ports, out ports and Num, the least and the most of each, and how many expressions.
	want := [][7]int{
		{0, 0, 1, 1, 0, 3, 0}, {1, 1, 1, 1, 0, 0, 2}, {1, 1, 1, 1, 0, 0, 1}, {1, 1, 1, 1, 0, 0, 2}, {1, 4, 1, 1, 0, 0, 0},
		{1, 1, 1, 4, 0, 0, 1}, {1, 1, 1, 4, 0, 0, 0}, {2, 2, 1, 1, 0, 0, 0}, {1, 1, 1, 1, 1, 6, 0}, {1, 1, 1, 1, 0, 0, 0},
		{2, 2, 1, 1, 0, 0, 0}, {1, 1, 2, 2, 0, 9, 1}, {1, 1, 0, 0, 0, 0, 0},
	}
	for k, row := range want {
		n, ok := kinds.Of(k + 1)
		got := [7]int{n.Ins.Low, n.Ins.High, n.Outs.Low, n.Outs.High, n.Num.Low, n.Num.High, n.Exprs}
		if !ok || got != row {
			t.Errorf("Of(%d) answers %v, %v, want %v", k+1, got, ok, row)
		}
	}
	for _, kind := range []int{math.MinInt, -1, 0, 14, 15, math.MaxInt} {
		if n, ok := kinds.Of(kind); ok || n != (kinds.Needs{}) {
			t.Errorf("Of(%d) answers %v, %v: that is no kind", kind, n, ok)
		}
	}
}

func TestHolds(t *testing.T) {
	for n := -3; n <= 5; n++ {
		if got, want := (kinds.Span{Low: -1, High: 3}).Holds(n), n >= -1 && n <= 3; got != want {
			t.Errorf("the numbers from -1 to 3 hold %d: %v", n, got)
		}
		if (kinds.Span{Low: 1}).Holds(n) {
			t.Errorf("there are no numbers from 1 to 0, but %d is one", n)
		}
	}
}
