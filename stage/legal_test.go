package stage_test

import (
	"math"
	"strings"
	"testing"

	"eddy/api"
)

// wantLegal tells where Legal answers another error, and where Step says otherwise of that state.
func (g tried) wantLegal(t *testing.T, promise string, s api.State, want api.Errno) {
	t.Helper()
	if e := g.Legal(s); e != want {
		t.Errorf("%s: %v: Legal(%s) answers error %d, want %d", promise, g, tell(s), e, want)
	}
	if want != api.OK {
		g.refuses(t, "P8.4", s, 0, rec("a=1"), want)
		return
	}
	if _, _, e := g.Step(s, 0, rec("a=1")); e != api.OK && s.Num != api.MaxNum {
		t.Errorf("P8.4: %v: Step refuses the legal state %s: error %d", g, tell(s), e)
	}
}

func TestEveryKindBeginsWithTheEmptyState(t *testing.T) {
	for _, g := range everyKind(t) {
		for _, s := range []api.State{{}, {Cells: []api.Cell{}}, {Cells: cells(1, none)[:0]}} {
			g.wantLegal(t, "P8.2", s, api.OK)
		}
	}
}

// TestNumsOfStates: a source and a sink alone have another one than 0.
func TestNumsOfStates(t *testing.T) {
	for _, g := range everyKind(t) {
		want := api.ErrStageState
		if g.task.Kind == api.Source || g.task.Kind == api.Sink {
			want = api.OK
		}
		for _, n := range []int{1, 2, 63, 64, 65, 1 << 20, api.MaxNum - 1, api.MaxNum} {
			g.wantLegal(t, "P8.3", api.State{Num: n}, want)
		}
		for _, n := range []int{-1, math.MinInt, api.MaxNum + 1, math.MaxInt} {
			g.wantLegal(t, "P8.3", api.State{Num: n}, api.ErrValNum)
		}
	}
}

// TestCellsOfStates: by kind which cells there can be. Of each, alone and between cells that are legal.
func TestCellsOfStates(t *testing.T) {
	all := []string{
		"[]", "[none]", "[0]", "[1]", "[2]", "[3]", "[4]", "[-1]", `["1"]`, `[""]`, "[[]]", "[[1, 2]]",
		"[none, 7]", "[0, 7]", "[1, 7]", "[2, 7]", "[3, 7]", "[4, 7]", "[-1, 7]", `["1", 7]`, "[[1], 7]", "[7, 1]", "[257, 7]", "[4294967297, 7]",
		"[1, none]", "[2, none]", "[1, [[1]]]", `[2, "x"]`,
		"[0, 7, 8]", "[1, 7, 8]", "[2, 7, 8]", "[3, 7, 8]", "[4, 7, 8]", "[3, none, none]", `["3", 7, 8]`, "[[3], 7, 8]", "[7, 8, 3]",
		"[1, 7, 8, 9]", "[3, 7, 8, 9]", "[1, 1, 1, 1]", "[3, 1, 2, 3, 4]", "[1, 2, 3, 4, 5, 6]",
	}
	join := map[string]bool{"[1, 7]": true, "[2, 7]": true, "[1, none]": true, "[2, none]": true, "[1, [[1]]]": true, `[2, "x"]`: true, "[3, 7, 8]": true, "[3, none, none]": true}
	legal := func(g tried, vals string) bool {
		n := len(val(vals).Items)
		switch g.task.Kind {
		case api.Fold:
			return n == 1
		case api.Join:
			return join[vals]
		case api.Window:
			return n >= 1 && n < g.task.Num
		case api.Dedup:
			return n == 0
		}
		return false
	}
	around := map[int]string{api.Fold: "[1]", api.Join: "[3, 1, 2]", api.Window: "[1]", api.Dedup: "[]"}
	stages := everyKind(t)
	for n := 1; n <= api.MaxItems; n++ {
		stages = append(stages, of(t, api.Window, n))
	}
	for _, g := range stages {
		for _, vals := range all {
			want := api.ErrStageState
			if legal(g, vals) {
				want = api.OK
			}
			g.wantLegal(t, "P8.3", state("0; a:"+vals), want)
			if beside := around[g.task.Kind]; beside != "" && !(g.task.Kind == api.Window && g.task.Num == 1) {
				g.wantLegal(t, "P8.3", state("0; a:"+vals+"; b:"+beside+"; c:"+beside), want)
				g.wantLegal(t, "P8.3", state("0; a:"+beside+"; b:"+vals+"; c:"+beside), want)
				g.wantLegal(t, "P8.3", state("0; a:"+beside+"; b:"+beside+"; c:"+vals), want)
			}
			g.wantLegal(t, "P8.3", state("1; a:"+vals), api.ErrStageState)
		}
	}
}

// TestWindowsCells: each N with each number of values.
func TestWindowsCells(t *testing.T) {
	for size := 1; size <= api.MaxItems; size++ {
		g := of(t, api.Window, size)
		for n := 0; n <= api.MaxItems; n++ {
			want := api.ErrStageState
			if n >= 1 && n < size {
				want = api.OK
			}
			g.wantLegal(t, "P8.3", api.State{Cells: cells(1, make([]api.Value, n)...)}, want)
		}
		g.wantLegal(t, "P8.3", api.State{Cells: cells(1, make([]api.Value, api.MaxItems+1)...)}, api.ErrValCells)
	}
}

// TestManyCells: as many as there can be, and one more.
func TestManyCells(t *testing.T) {
	for _, g := range keepings(t) {
		g.wantLegal(t, "P8.3", api.State{Cells: cells(63, g.vals...)}, api.OK)
		g.wantLegal(t, "P8.3", api.State{Cells: cells(64, g.vals...)}, api.OK)
		g.wantLegal(t, "P8.3", api.State{Cells: cells(65, g.vals...)}, api.ErrValCells)
		last := api.State{Cells: cells(64, g.vals...)}
		last.Cells[63].Vals = []api.Value{num(9), num(9), num(9)}
		g.wantLegal(t, "P8.3", last, api.ErrStageState)
	}
}

// faultyStates are states that aren't valid, whatever the task is.
func faultyStates() map[string]api.State {
	long := strings.Repeat("k", 13)
	return map[string]api.State{
		"Num below":      {Num: -1},
		"Num above":      {Num: api.MaxNum + 1},
		"65 cells":       {Cells: cells(65)},
		"key":            {Cells: []api.Cell{{Key: long}}},
		"order":          {Cells: []api.Cell{{Key: "b"}, {Key: "a"}}},
		"twice":          {Cells: []api.Cell{{Key: "a"}, {Key: "a"}}},
		"seven values":   {Cells: cells(1, make([]api.Value, 7)...)},
		"kind":           {Cells: cells(1, api.Value{Kind: 4})},
		"a field beside": {Cells: cells(1, api.Value{Kind: api.Text, Int: 1})},
		"text":           {Cells: cells(1, text(strings.Repeat("t", 25)))},
		"depth":          {Cells: cells(1, list(list(list(list()))))},
		"items":          {Cells: cells(1, list(make([]api.Value, 7)...))},
	}
}

// TestStatesThatArentValid: value.CheckState's error comes first, also where the task couldn't have such a state.
func TestStatesThatArentValid(t *testing.T) {
	want := map[string]api.Errno{
		"Num below": api.ErrValNum, "Num above": api.ErrValNum, "65 cells": api.ErrValCells, "key": api.ErrValKey, "order": api.ErrValCells, "twice": api.ErrValCells,
		"seven values": api.ErrValCells, "kind": api.ErrValKind, "a field beside": api.ErrValKind, "text": api.ErrValText, "depth": api.ErrValDepth, "items": api.ErrValItems,
	}
	for _, g := range everyKind(t) {
		for what, s := range faultyStates() {
			g.wantLegal(t, "P8.3", s, want[what])
		}
		g.wantLegal(t, "P8.3", api.State{Num: 5, Cells: append(cells(2, none, none, none, none), api.Cell{Key: "a"})}, api.ErrValCells)
	}
}

// TestAJoinsFirstValueIsAnInt: a number in another kind of value isn't valid at all.
func TestAJoinsFirstValueIsAnInt(t *testing.T) {
	g := of(t, api.Join, 0)
	for kind := range 5 {
		want := api.ErrValKind
		if kind == api.Int {
			want = api.OK
		}
		g.wantLegal(t, "P8.3", api.State{Cells: cells(1, api.Value{Kind: kind, Int: 1}, none)}, want)
	}
}
