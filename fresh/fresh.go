// Package fresh: copies that share no memory with what they are made of: no list, no spare room behind one, no text.
package fresh

import (
	"strings"

	"eddy/api"
)

// Value copies a value, a valid one or not, field by field.
func Value(v api.Value) api.Value {
	v.Text = strings.Clone(v.Text)
	v.Items = list(v.Items, Value)
	return v
}

// Record copies a record, a valid one or not, field by field.
func Record(r api.Record) api.Record {
	r.Key = strings.Clone(r.Key)
	r.Val = Value(r.Val)
	r.Loops = append([]int(nil), r.Loops...)
	return r
}

// State copies a state, a valid one or not, field by field.
func State(s api.State) api.State {
	s.Cells = list(s.Cells, cell)
	return s
}

func cell(c api.Cell) api.Cell {
	c.Key = strings.Clone(c.Key)
	c.Vals = list(c.Vals, Value)
	return c
}

// list copies a list, each item as one copies it; an empty one gives nil, since its spare room is not to be kept.
func list[T any](items []T, one func(T) T) []T {
	if len(items) == 0 {
		return nil
	}
	all := make([]T, len(items))
	for k, item := range items {
		all[k] = one(item)
	}
	return all
}
