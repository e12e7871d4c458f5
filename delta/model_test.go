package delta_test

import (
	"maps"
	"slices"
	"strings"

	"eddy/api"
	"eddy/value"
)

// The model is a second reading of the chapter: a state or a delta is a map from keys to what is told of them.

// An entry is a cell's values, or that the key is gone.
type entry struct {
	gone bool
	vals []api.Value
}

func entriesOf(set []api.Cell, gone []string) map[string]entry {
	all := map[string]entry{}
	for _, c := range set {
		all[c.Key] = entry{vals: c.Vals}
	}
	for _, key := range gone {
		all[key] = entry{gone: true}
	}
	return all
}

// apart tells entries as two lists that rise by key.
func apart(entries map[string]entry) ([]api.Cell, []string) {
	var set []api.Cell
	var gone []string
	for _, key := range slices.Sorted(maps.Keys(entries)) {
		if x := entries[key]; x.gone {
			gone = append(gone, key)
		} else {
			set = append(set, api.Cell{Key: key, Vals: x.vals})
		}
	}
	return set, gone
}

// bytesOf writes values so that those that are the same by value.Compare, and no others, have the same bytes (P2.12).
func bytesOf(vals []api.Value) string {
	var all strings.Builder
	for _, v := range vals {
		all.Write(value.Encode(v))
	}
	return all.String()
}

func (c call) modelled() answer {
	if e := c.modelFault(); e != api.OK {
		return answer{err: e}
	}
	switch c.what {
	case "Diff":
		return modelDiff(c.states[0], c.states[1])
	case "Apply":
		return modelApply(c.states[0], c.deltas[0])
	case "Join":
		return modelJoin(c.deltas[0], c.deltas[1])
	}
	return answer{}
}

// modelFault gives the error of the first argument that has one: a call's states stand ahead of its deltas.
func (c call) modelFault() api.Errno {
	for _, s := range c.states {
		if e := value.CheckState(s); e != api.OK {
			return e
		}
	}
	for _, d := range c.deltas {
		if e := modelCheck(d); e != api.OK {
			return e
		}
	}
	return api.OK
}

func modelCheck(d api.Delta) api.Errno {
	if e := value.CheckState(api.State{Num: d.Num, Cells: d.Set}); e != api.OK {
		return e
	}
	if len(d.Gone) > 64 {
		return api.ErrDeltaCells
	}
	seen := entriesOf(d.Set, nil)
	for k, key := range d.Gone {
		if len([]byte(key)) > 12 {
			return api.ErrValKey
		}
		seen[key] = entry{gone: true}
		// Keys that are all other ones make one entry each; the greatest so far must be this one.
		if len(seen) != len(d.Set)+k+1 || slices.Max(d.Gone[:k+1]) != key {
			return api.ErrDeltaForm
		}
	}
	return api.OK
}

func modelDiff(a, b api.State) answer {
	all, old, new := map[string]entry{}, entriesOf(a.Cells, nil), entriesOf(b.Cells, nil)
	for key := range old {
		if _, there := new[key]; !there {
			all[key] = entry{gone: true}
		}
	}
	for key, x := range new {
		was, there := old[key]
		if !there || len(was.vals) != len(x.vals) || bytesOf(was.vals) != bytesOf(x.vals) {
			all[key] = x
		}
	}
	set, gone := apart(all)
	return answer{delta: api.Delta{Num: b.Num, Set: set, Gone: gone}}
}

func modelApply(s api.State, d api.Delta) answer {
	all := entriesOf(s.Cells, nil)
	for key, x := range entriesOf(d.Set, d.Gone) {
		if _, there := all[key]; x.gone && !there {
			return answer{err: api.ErrDeltaGone}
		}
		all[key] = x
	}
	set, _ := apart(all)
	if len(set) > 64 {
		return answer{err: api.ErrDeltaCells}
	}
	return answer{state: api.State{Num: d.Num, Cells: set}}
}

func modelJoin(d, e api.Delta) answer {
	all := entriesOf(d.Set, d.Gone)
	for key, x := range entriesOf(e.Set, e.Gone) {
		if x.gone && all[key].gone {
			return answer{err: api.ErrDeltaGone}
		}
		all[key] = x
	}
	set, gone := apart(all)
	if len(set) > 64 || len(gone) > 64 {
		return answer{err: api.ErrDeltaCells}
	}
	return answer{delta: api.Delta{Num: e.Num, Set: set, Gone: gone}}
}
