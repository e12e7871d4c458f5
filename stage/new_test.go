package stage_test

import (
	"math"
	"slices"
	"strings"
	"testing"

	"eddy/api"
	"eddy/stage"
)

// wantNew tells where New answers another error, or a stage beside one.
func wantNew(t *testing.T, k api.Task, ins, outs int, want api.Errno) {
	t.Helper()
	g, e := stage.New(k, ins, outs)
	if e != want || (g != nil) != (want == api.OK) {
		t.Errorf("P8.1: New(%+v, %d, %d) answers a stage: %v, error %d, want error %d", k, ins, outs, g != nil, e, want)
	}
}

// firstError is P8.1 in its order, over the table of rows.
func firstError(k api.Task, ins, outs int, faulty bool) api.Errno {
	at := slices.IndexFunc(rows(), func(r row) bool { return r.kind == k.Kind })
	if at < 0 {
		return api.ErrStageKind
	}
	r := rows()[at]
	switch {
	case ins < r.inLow || ins > r.inHigh || outs < r.outLow || outs > r.outHigh:
		return api.ErrStagePorts
	case k.Num < r.numLow || k.Num > r.numHigh:
		return api.ErrStageNum
	case len(k.Exprs) != r.exprs || faulty:
		return api.ErrStageExpr
	}
	return api.OK
}

// TestNewOfAll: every kind and numbers that are none, with all small numbers of ports, Num and expressions, with and without a fault.
func TestNewOfAll(t *testing.T) {
	exprs := [][]string{nil, {"val"}, {"1", "key"}, {"1", "2", "3"}, {"1+"}, {"1+", "2"}, {"1", "2+"}, {"1", "2", "3+"}}
	for kind := -1; kind <= 15; kind++ {
		for ins := -1; ins <= 6; ins++ {
			for outs := -1; outs <= 6; outs++ {
				for n := -1; n <= 11; n++ {
					for which, e := range exprs {
						k := task(kind, n, e...)
						wantNew(t, k, ins, outs, firstError(k, ins, outs, which > 3))
					}
				}
			}
		}
	}
}

// TestNewOfFarNumbers: numbers far from the ranges, in each place.
func TestNewOfFarNumbers(t *testing.T) {
	for _, far := range []int{math.MinInt, math.MinInt32, -100, 100, 256 + 1, 1 << 32, 1<<32 + 1, math.MaxInt} {
		wantNew(t, task(far, 0), 1, 1, api.ErrStageKind)
		for _, r := range rows() {
			exprs := slices.Repeat([]string{"val"}, r.exprs)
			wantNew(t, task(r.kind, r.numLow, exprs...), far, r.outLow, api.ErrStagePorts)
			wantNew(t, task(r.kind, r.numLow, exprs...), r.inLow, far, api.ErrStagePorts)
			wantNew(t, task(r.kind, far, exprs...), r.inLow, r.outLow, api.ErrStageNum)
		}
	}
}

// TestNewOfFaults: each expression of each kind, with faults of every sort; and texts at the bound.
func TestNewOfFaults(t *testing.T) {
	faults := []string{"", " ", "1+", "1 = 2", "foo", "\"a", "99999999999999999999", "\t1", "1 2", ")", strings.Repeat("(", 11), strings.Repeat("1", 101), strings.Repeat(" ", 100) + "1", "\xff"}
	sound := []string{" 1", "val", strings.Repeat("0", 100), strings.Repeat(" ", 99) + "1", "[key, acc, hops]", strings.Repeat("(", 10) + "1" + strings.Repeat(")", 10)}
	for _, r := range rows() {
		for place := range r.exprs {
			for _, s := range faults {
				exprs := slices.Repeat([]string{"val"}, r.exprs)
				exprs[place] = s
				wantNew(t, task(r.kind, r.numLow, exprs...), r.inLow, r.outLow, api.ErrStageExpr)
			}
			for _, s := range sound {
				exprs := slices.Repeat([]string{"val"}, r.exprs)
				exprs[place] = s
				wantNew(t, task(r.kind, r.numLow, exprs...), r.inLow, r.outLow, api.OK)
			}
		}
		for n := range 5 {
			want := api.ErrStageExpr
			if n == r.exprs {
				want = api.OK
			}
			wantNew(t, task(r.kind, r.numLow, slices.Repeat([]string{"val"}, n)...), r.inLow, r.outLow, want)
		}
	}
}

// TestNewLooksAtNoName: names that no plan could have.
func TestNewLooksAtNoName(t *testing.T) {
	for _, name := range []string{"", "x", "A", "9", "\x00\xff", strings.Repeat("long", 1000)} {
		for _, r := range rows() {
			k := task(r.kind, r.numHigh, slices.Repeat([]string{"val"}, r.exprs)...)
			k.Name = name
			wantNew(t, k, r.inHigh, r.outHigh, api.OK)
			k.Num = -1
			wantNew(t, k, r.inHigh, r.outHigh, api.ErrStageNum)
		}
	}
}

// TestAnEmptyListOfExpressionsIsAsGoodAsNone: with and without spare room.
func TestAnEmptyListOfExpressionsIsAsGoodAsNone(t *testing.T) {
	spare := []string{"1+", "1+"}
	for _, exprs := range [][]string{nil, {}, spare[:0]} {
		wantNew(t, task(api.Tee, 0, exprs...), 1, 2, api.OK)
		wantNew(t, api.Task{Kind: api.Filter, Exprs: exprs}, 1, 1, api.ErrStageExpr)
		wantNew(t, api.Task{Kind: api.Sink, Exprs: exprs}, 1, 0, api.OK)
	}
	wantNew(t, api.Task{Kind: api.Filter, Exprs: append(spare[:0:0], "1", "1+")[:1]}, 1, 1, api.OK)
}
