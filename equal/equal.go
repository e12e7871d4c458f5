// Package equal: whether two things are the same field by field, whether they are valid or not. A nil list and an empty one are the same.
package equal

import (
	"slices"

	"eddy/api"
)

// Config compares two configurations.
func Config(a, b api.Config) bool {
	return slices.EqualFunc(a.States, b.States, State) && slices.EqualFunc(a.Lanes, b.Lanes, Records) && slices.EqualFunc(a.Outs, b.Outs, Records)
}

// Shot compares two snapshots.
func Shot(a, b api.Shot) bool {
	return a.Id == b.Id && a.Sum == b.Sum && slices.EqualFunc(a.Parts, b.Parts, Part)
}

// Part compares what two tasks hand in.
func Part(a, b api.Part) bool {
	return State(a.State, b.State) && slices.EqualFunc(a.Logs, b.Logs, Records) && Records(a.Pend, b.Pend)
}

// State compares two states.
func State(a, b api.State) bool { return a.Num == b.Num && slices.EqualFunc(a.Cells, b.Cells, cell) }

func cell(a, b api.Cell) bool { return a.Key == b.Key && slices.EqualFunc(a.Vals, b.Vals, Value) }

// Records compares two lists of records.
func Records(a, b []api.Record) bool { return slices.EqualFunc(a, b, Record) }

// Record compares two records.
func Record(a, b api.Record) bool {
	return a.Key == b.Key && Value(a.Val, b.Val) && slices.Equal(a.Loops, b.Loops)
}

// Value compares two values.
func Value(a, b api.Value) bool {
	return a.Kind == b.Kind && a.Int == b.Int && a.Text == b.Text && slices.EqualFunc(a.Items, b.Items, Value)
}
