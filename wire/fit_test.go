package wire_test

import (
	"math"
	"slices"
	"testing"

	"eddy/api"
)

var badRecord = api.Record{Key: "0123456789abc", Val: api.Value{Kind: 7}, Loops: []int{10}}

func TestRecordsThatAreNotFit(t *testing.T) {
	k := kindNamed("Record")
	for _, c := range []struct {
		r    api.Record
		want api.Errno
	}{
		{badRecord, api.ErrValKey},
		{api.Record{Val: api.Value{Kind: 7}, Loops: []int{10}}, api.ErrValKind},
		{api.Record{Val: text(long(25))}, api.ErrValText},
		{api.Record{Val: list(make([]api.Value, 7)...)}, api.ErrValItems},
		{api.Record{Val: list(list(list(list())))}, api.ErrValDepth},
		{api.Record{Loops: []int{0, 0, 0, 0}}, api.ErrValLoops}, {api.Record{Loops: []int{0, -1}}, api.ErrValLoops}, {api.Record{Loops: []int{10}}, api.ErrValLoops}, {api.Record{Loops: []int{math.MaxInt}}, api.ErrValLoops},
	} {
		k.unfit(t, "P4.13", c.r, c.want)
		kindNamed("Row").unfit(t, "P4.13", api.OutRow{Rec: c.r}, c.want)
		kindNamed("Segment").unfit(t, "P4.13", api.Segment{Pend: []api.Record{{}, c.r, badRecord}}, c.want)
		kindNamed("Segment").unfit(t, "P4.13", api.Segment{Logs: [][]api.Record{nil, {{}, c.r, badRecord}}}, c.want)
	}
}

func TestStatesThatAreNotFit(t *testing.T) {
	for _, c := range []struct {
		s    api.State
		want api.Errno
	}{
		{api.State{Num: -1, Cells: cells(65)}, api.ErrValNum}, {api.State{Num: 1<<30 + 1}, api.ErrValNum}, {api.State{Num: math.MinInt}, api.ErrValNum}, {api.State{Num: math.MaxInt}, api.ErrValNum},
		{api.State{Cells: cells(65)}, api.ErrValCells},
		{api.State{Cells: []api.Cell{{Key: long(13)}, {Key: ""}}}, api.ErrValKey},
		{api.State{Cells: []api.Cell{{Key: "b"}, {Key: "a", Vals: []api.Value{{Kind: 7}}}}}, api.ErrValCells},
		{api.State{Cells: []api.Cell{{Vals: make([]api.Value, 7)}}}, api.ErrValCells},
		{api.State{Cells: []api.Cell{{Vals: []api.Value{none, {Kind: -1}}}}}, api.ErrValKind},
	} {
		kindNamed("State").unfit(t, "P4.13", c.s, c.want)
		kindNamed("Segment").unfit(t, "P4.13", api.Segment{State: c.s, Logs: make([][]api.Record, 5)}, c.want)
		kindNamed("Segment").unfit(t, "P4.13", api.Segment{Base: 1, Delta: api.Delta{Num: c.s.Num, Set: c.s.Cells, Gone: keys(65)}, Logs: make([][]api.Record, 5)}, c.want)
	}
}

func TestSegmentsFieldsOutOfTheirBounds(t *testing.T) {
	k := kindNamed("Segment")
	for _, s := range []api.Segment{
		{Id: -1}, {Id: 10000}, {Id: math.MinInt}, {Id: math.MaxInt}, {Task: -1}, {Task: 12}, {Task: math.MinInt}, {Base: -1}, {Base: 10000}, {Base: math.MinInt}, {Base: math.MaxInt},
	} {
		k.unfit(t, "P4.13", s, api.ErrWireBound)
		s.State, s.BaseSum, s.Delta.Num = api.State{Num: -1}, 1, -1
		k.unfit(t, "P4.13", s, api.ErrWireBound)
	}
	for _, s := range []api.Segment{{Id: 9999}, {Task: 11}, {Base: 9999}, {Id: 0, Task: 0, Base: 0}} {
		k.bothWays(t, "P4.13", s, k.lay(s))
	}
}

func TestSegmentsOfTheOtherKind(t *testing.T) {
	k := kindNamed("Segment")
	for _, s := range []api.Segment{
		{BaseSum: 1}, {BaseSum: 1 << 31}, {Delta: api.Delta{Num: 1}}, {Delta: api.Delta{Num: -1}}, {Delta: api.Delta{Set: cells(1)}}, {Delta: api.Delta{Gone: []string{""}}},
		{Base: 1, State: api.State{Num: 1}}, {Base: 1, State: api.State{Num: -1}}, {Base: 9999, State: api.State{Cells: make([]api.Cell, 1)}},
	} {
		k.unfit(t, "P4.13", s, api.ErrWireForm)
		s.Logs, s.Pend = make([][]api.Record, 5), []api.Record{badRecord}
		if s.Base == 0 {
			s.State.Num = -1
		} else {
			s.Delta = api.Delta{Num: -1, Gone: keys(65)}
		}
		k.unfit(t, "P4.13", s, api.ErrWireForm)
	}
	for _, s := range []api.Segment{{State: api.State{Num: 1, Cells: cells(1)}}, {Base: 1, BaseSum: 1, Delta: api.Delta{Num: 1, Set: cells(1), Gone: keys(1)}}} {
		k.bothWays(t, "P4.13", s, k.lay(s))
	}
}

func TestKeysThatAreGone(t *testing.T) {
	k := kindNamed("Segment")
	gone := func(keys ...string) api.Segment { return api.Segment{Base: 1, Delta: api.Delta{Gone: keys}} }
	for _, c := range []struct {
		keys []string
		want api.Errno
	}{
		{keys(65), api.ErrWireBound}, {make([]string, 65), api.ErrWireBound}, {slices.Repeat([]string{long(13)}, 65), api.ErrWireBound},
		{[]string{long(13)}, api.ErrValKey}, {[]string{"b", "0123456789abc"}, api.ErrValKey}, {[]string{"a", long(13), "a"}, api.ErrValKey},
		{[]string{"b", "a", long(13)}, api.ErrWireOrder}, {[]string{"a", "a"}, api.ErrWireOrder}, {[]string{"", ""}, api.ErrWireOrder}, {[]string{"a", "b", "a"}, api.ErrWireOrder},
	} {
		s := gone(c.keys...)
		k.unfit(t, "P4.13", s, c.want)
		s.Logs, s.Pend = make([][]api.Record, 5), []api.Record{badRecord}
		k.unfit(t, "P4.13", s, c.want)
	}
	for _, keys := range [][]string{keys(64), {long(12)}, {""}, {"", "a"}} {
		k.bothWays(t, "P4.13", gone(keys...), k.lay(gone(keys...)))
	}
}

func TestLogsThatAreTooMany(t *testing.T) {
	k := kindNamed("Segment")
	bad, many, more := []api.Record{badRecord}, make([]api.Record, 256), make([]api.Record, 257)
	for _, s := range []api.Segment{
		{Logs: make([][]api.Record, 5)}, {Logs: [][]api.Record{bad, nil, nil, nil, nil}, Pend: bad}, {Logs: [][]api.Record{more}}, {Logs: [][]api.Record{nil, nil, nil, more}, Pend: bad}, {Logs: [][]api.Record{more, bad}},
		{Pend: more}, {Logs: [][]api.Record{many, many, many, many}, Pend: append(slices.Clone(bad), many...)}, {Logs: [][]api.Record{append(slices.Clone(bad), many...)}},
	} {
		k.unfit(t, "P4.13", s, api.ErrWireBound)
	}
	for _, s := range []api.Segment{{Logs: [][]api.Record{bad, more}}, {Logs: [][]api.Record{bad}, Pend: more}, {Logs: [][]api.Record{many, many, many, bad}, Pend: more}, {Pend: bad}} {
		k.unfit(t, "P4.13", s, api.ErrValKey)
	}
	full := api.Segment{Logs: [][]api.Record{many, many, many, many}, Pend: many}
	k.bothWays(t, "P4.13", full, k.lay(full))
}

func TestManifestsThatAreNotFit(t *testing.T) {
	k := kindNamed("Manifest")
	for _, m := range []api.Manifest{
		{Id: -1}, {Id: 10000}, {Id: math.MinInt}, {Id: math.MaxInt}, {Rows: make([]api.Row, 13)},
		{Rows: []api.Row{{Size: 65537}}}, {Rows: []api.Row{{Size: -1}}}, {Rows: []api.Row{{}, {Size: math.MinInt}}}, {Rows: append(make([]api.Row, 11), api.Row{Size: math.MaxInt})},
	} {
		k.unfit(t, "P4.13", m, api.ErrWireBound)
	}
	for _, m := range []api.Manifest{{Id: 9999}, {Rows: make([]api.Row, 12)}, {Rows: []api.Row{{Size: 65536}}}} {
		k.bothWays(t, "P4.13", m, k.lay(m))
	}
}

func TestRowsThatAreNotFit(t *testing.T) {
	k := kindNamed("Row")
	for _, at := range []int{-1, 1<<30 + 1, math.MinInt, math.MaxInt} {
		k.unfit(t, "P4.13", api.OutRow{At: at}, api.ErrWireBound)
		k.unfit(t, "P4.13", api.OutRow{At: at, Rec: badRecord}, api.ErrWireBound)
	}
	k.unfit(t, "P4.13", api.OutRow{At: 1 << 30, Rec: badRecord}, api.ErrValKey)
	k.bothWays(t, "P4.13", api.OutRow{At: 1 << 30}, k.lay(api.OutRow{At: 1 << 30}))
}
