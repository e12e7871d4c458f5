package pen

import (
	"strconv"
	"strings"

	"eddy/api"
	"eddy/value"
)

// The tellers below write valid things as the readers read them.

// TellRecord writes a record.
func TellRecord(r api.Record) string {
	s := r.Key + "=" + value.Print(r.Val)
	for _, n := range r.Loops {
		s += "@" + strconv.Itoa(n)
	}
	return s
}

// TellRecords writes records.
func TellRecords(all []api.Record) string { return told(all, TellRecord, " | ") }

// TellLists writes lists of records.
func TellLists(all [][]api.Record) string { return told(all, TellRecords, " / ") }

// TellState writes a state.
func TellState(s api.State) string {
	text := strconv.Itoa(s.Num)
	for _, c := range s.Cells {
		text += "; " + c.Key + ":[" + told(c.Vals, value.Print, ", ") + "]"
	}
	return text
}

// TellConfig writes a configuration: the states, the lanes and the outputs, with a # between.
func TellConfig(c api.Config) string {
	return strings.Join([]string{told(c.States, TellState, " / "), TellLists(c.Lanes), TellLists(c.Outs)}, " # ")
}

func told[T any](all []T, one func(T) string, between string) string {
	var words []string
	for _, x := range all {
		words = append(words, one(x))
	}
	return strings.Join(words, between)
}
