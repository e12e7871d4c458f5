package stage_test

import (
	"math"
	"strings"
	"testing"

	"eddy/api"
	"eddy/stage"
)

// faultyRecords are records that aren't valid, each with its error.
func faultyRecords() map[api.Errno]api.Record {
	return map[api.Errno]api.Record{
		api.ErrValKey:   {Key: strings.Repeat("k", 13), Val: api.Value{Kind: 9}, Loops: []int{-1}},
		api.ErrValKind:  {Key: "a", Val: api.Value{Kind: 9}, Loops: []int{-1}},
		api.ErrValText:  {Key: "a", Val: text(strings.Repeat("t", 25))},
		api.ErrValItems: {Key: "a", Val: list(make([]api.Value, 7)...)},
		api.ErrValDepth: {Key: "a", Val: list(list(list(list())))},
		api.ErrValLoops: {Key: "a", Loops: []int{0, 0, 0, 0}},
	}
}

func TestPortsOfAStep(t *testing.T) {
	for _, g := range everyKind(t) {
		for _, port := range []int{math.MinInt, -2, -1, g.picks(), g.picks() + 1, 64, math.MaxInt} {
			g.refuses(t, "P8.4", api.State{}, port, rec("a=1"), api.ErrStagePort)
		}
		for port := range g.picks() {
			if _, _, e := g.Step(api.State{}, port, rec("a=1")); e != api.OK {
				t.Errorf("P8.4: %v: Step at port %d answers error %d", g, port, e)
			}
		}
	}
}

func TestPortsOfASource(t *testing.T) {
	g := of(t, api.Source, 2)
	g.wants(t, "P8.4", api.State{}, 0, rec("a=1"), state("1"), sends("0 a=1"))
	g.refuses(t, "P8.4", api.State{}, 1, rec("a=1"), api.ErrStagePort)
	g.refuses(t, "P8.4", api.State{}, -1, rec("a=1"), api.ErrStagePort)
}

func TestRecordsThatArentValid(t *testing.T) {
	for _, g := range everyKind(t) {
		for port := range g.picks() {
			for want, r := range faultyRecords() {
				g.refuses(t, "P8.4", api.State{}, port, r, want)
			}
			for _, n := range []int{-1, 10, math.MinInt, math.MaxInt} {
				g.refuses(t, "P8.4", api.State{}, port, api.Record{Loops: []int{0, n}}, api.ErrValLoops)
			}
		}
	}
}

// TestTheFirstErrorOfAStep: of the port, the record, the state and its number, with all errors behind it there too.
func TestTheFirstErrorOfAStep(t *testing.T) {
	strange := api.State{Num: api.MaxNum, Cells: cells(1, none, none, none, none, none, none)}
	for _, g := range everyKind(t) {
		for _, s := range []api.State{{}, {Num: -1}, strange, {Num: api.MaxNum}} {
			for want, r := range faultyRecords() {
				g.refuses(t, "P8.4", s, -1, r, api.ErrStagePort)
				g.refuses(t, "P8.4", s, g.picks(), r, api.ErrStagePort)
				g.refuses(t, "P8.4", s, 0, r, want)
			}
		}
		for _, s := range faultyStates() {
			g.refuses(t, "P8.4", s, 0, rec("a=1"), g.Legal(s))
			g.refuses(t, "P8.4", s, -1, rec("a=1"), api.ErrStagePort)
		}
		g.refuses(t, "P8.4", strange, 0, rec("a=1"), api.ErrStageState)
	}
}

// TestTheLastNumber: a source and a sink step up to MaxNum, and no farther; of no other kind is that a state.
func TestTheLastNumber(t *testing.T) {
	for _, g := range everyKind(t) {
		if g.task.Kind != api.Source && g.task.Kind != api.Sink {
			g.refuses(t, "P8.4", api.State{Num: api.MaxNum}, 0, rec("a=1"), api.ErrStageState)
			continue
		}
		out := ""
		if g.task.Kind == api.Source {
			out = "0 a=1@2"
		}
		g.wants(t, "P8.4", api.State{Num: api.MaxNum - 2}, 0, rec("a=1@2"), api.State{Num: api.MaxNum - 1}, sends(out))
		g.wants(t, "P8.4", api.State{Num: api.MaxNum - 1}, 0, rec("a=1@2"), api.State{Num: api.MaxNum}, sends(out))
		g.refuses(t, "P8.4", api.State{Num: api.MaxNum}, 0, rec("a=1@2"), api.ErrStageFull)
		g.refuses(t, "P8.4", api.State{Num: api.MaxNum, Cells: cells(1)}, 0, rec("a=1@2"), api.ErrStageState)
		g.refuses(t, "P8.4", api.State{Num: api.MaxNum + 1}, 0, rec("a=1@2"), api.ErrValNum)
		g.wantLegal(t, "P8.3", api.State{Num: api.MaxNum}, api.OK)
	}
}

// TestAStageThatNoNewMade: nothing is said of it but that no call panics.
func TestAStageThatNoNewMade(t *testing.T) {
	var g stage.Stage
	for _, s := range []api.State{{}, {Num: 1}, {Cells: cells(1, none)}, {Num: -1}} {
		g.Legal(s)
		for port := -1; port < 5; port++ {
			g.Step(s, port, rec("a=1"))
		}
	}
}
