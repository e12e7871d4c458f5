package delta_test

import (
	"maps"
	"slices"
	"testing"

	"eddy/api"
	"eddy/delta"
	"eddy/equal"
)

// smallStates gives all states with some of the keys (a byte each), each with one of two values.
func smallStates(keys string) []api.State {
	all := []api.State{{}}
	for k := range len(keys) {
		for _, s := range slices.Clone(all) {
			for n := range 2 {
				cells := append(slices.Clone(s.Cells), cell(keys[k:k+1], num(int64(n))))
				all = append(all, api.State{Num: len(all) % 4, Cells: cells})
			}
		}
	}
	return all
}

// smallDeltas gives all fit deltas of this kind: of each key they say nothing, one of two values, or that it is gone.
func smallDeltas(keys string) []api.Delta {
	all := []api.Delta{{}}
	for k := range len(keys) {
		key := keys[k : k+1]
		for _, d := range slices.Clone(all) {
			for n := range 2 {
				all = append(all, api.Delta{Num: len(all) % 4, Set: append(slices.Clone(d.Set), cell(key, num(int64(n)))), Gone: d.Gone})
			}
			all = append(all, api.Delta{Num: len(all) % 4, Set: d.Set, Gone: append(slices.Clone(d.Gone), key)})
		}
	}
	return all
}

// leastLeads asks of two states what P11.5 says, and gives the number of the entries of their difference. (Valid states are the same, as the chapter says it, just where they are so field by field.)
func leastLeads(t *testing.T, a, b api.State) int {
	t.Helper()
	d, e := delta.Diff(a, b)
	if e != api.OK {
		t.Fatalf("P11.5: %v answers error %d", diffOf(a, b), e)
	}
	if s, e := delta.Apply(a, d); e != api.OK || !equal.State(s, b) {
		t.Fatalf("P11.5: %v and Apply lead to %s, error %d", diffOf(a, b), tell(s.Num, s.Cells, nil), e)
	}
	for k := range d.Set {
		x := api.Delta{Num: d.Num, Set: slices.Delete(slices.Clone(d.Set), k, k+1), Gone: d.Gone}
		if s, e := delta.Apply(a, x); e == api.OK && equal.State(s, b) {
			t.Fatalf("P11.5: %v has the cell %q, which could be left out", diffOf(a, b), d.Set[k].Key)
		}
	}
	for k := range d.Gone {
		x := api.Delta{Num: d.Num, Set: d.Set, Gone: slices.Delete(slices.Clone(d.Gone), k, k+1)}
		if s, e := delta.Apply(a, x); e == api.OK && equal.State(s, b) {
			t.Fatalf("P11.5: %v has the key %q, which could be left out", diffOf(a, b), d.Gone[k])
		}
	}
	return len(d.Set) + len(d.Gone)
}

func TestADiffLeadsThere(t *testing.T) {
	for _, a := range smallStates("abc") {
		for _, b := range smallStates("abc") {
			leastLeads(t, a, b)
		}
		diffOf(a, a).gives(t, "P11.5", api.Delta{Num: a.Num})
	}
	met := map[int]int{}
	for seed := range 3000 {
		d := seeded(seed)
		a := d.state()
		met[leastLeads(t, a, d.near(a))]++
		met[leastLeads(t, a, d.state())]++
		diffOf(a, a).gives(t, "P11.5", api.Delta{Num: a.Num})
	}
	if most := slices.Max(slices.Collect(maps.Keys(met))); met[0] < 10 || most < 100 {
		t.Errorf("the differences have too few entries: %v", met)
	}
}

// What one behind the other and joined lead to, as P11.6 tells the cases.
const (
	unsaid     = iota // d itself can't be applied: nothing is said
	bothLead          // both ways lead somewhere
	madeNew           // joined, it takes a key away that d made new
	tooMany           // there are too many entries for one delta
	neitherWay        // e can't be applied behind d, and joined it can't be either
	cases
)

// joined asks of a state and two deltas what P11.6 says, and gives the case.
func joined(t *testing.T, s api.State, d, e api.Delta) int {
	t.Helper()
	between, err := delta.Apply(s, d)
	if err != api.OK {
		return unsaid
	}
	want, stepErr := delta.Apply(between, e)
	j, joinErr := delta.Join(d, e)
	got, onceErr := delta.Apply(s, j)
	told := func(what string) {
		t.Helper()
		t.Fatalf("P11.6: %s: from %s, %v answers error %d, then Apply error %d; one behind the other, error %d", what, tell(s.Num, s.Cells, nil), joinOf(d, e), joinErr, onceErr, stepErr)
	}
	if joinErr == api.OK && onceErr == api.OK && (stepErr != api.OK || !equal.State(got, want)) {
		told("the two ways part")
	}
	if stepErr != api.OK {
		return neitherWay
	}
	if joinErr == api.ErrDeltaCells {
		return tooMany
	}
	if joinErr != api.OK {
		told("the deltas can't be joined")
	}
	takesNew := slices.ContainsFunc(e.Gone, func(key string) bool {
		return slices.Contains(keysOf(d.Set), key) && !slices.Contains(keysOf(s.Cells), key)
	})
	if takesNew != (onceErr == api.ErrDeltaGone) || !takesNew && onceErr != api.OK {
		told("the joined delta can be applied, or not, against the rule")
	}
	if takesNew {
		return madeNew
	}
	return bothLead
}

func TestJoinedIsOneBehindTheOther(t *testing.T) {
	var small, drawn [cases]int
	deltas := smallDeltas("abc")
	for _, s := range smallStates("abc") {
		for _, d := range deltas {
			for _, e := range deltas {
				small[joined(t, s, d, e)]++
			}
		}
	}
	for seed := range 20000 {
		x := seeded(seed)
		s := x.state()
		there := keysOf(s.Cells)
		d := x.delta(there)
		drawn[joined(t, s, d, x.delta(behind(there, d)))]++
	}
	if small[unsaid] == 0 || small[bothLead] == 0 || small[madeNew] == 0 || small[neitherWay] == 0 || slices.Min(drawn[:]) < 50 {
		t.Errorf("P11.6: the cases are met %v and %v times", small, drawn)
	}
}

// TestTooManyToJoin: all that d leaves there goes with e, and one delta can't tell that.
func TestTooManyToJoin(t *testing.T) {
	low, high := counted(0, 64), counted(64, 64)
	s := api.State{Cells: celled(low)}
	d, e := api.Delta{Set: celled(high), Gone: low}, api.Delta{Gone: high}
	if joined(t, s, d, e) != tooMany {
		t.Errorf("P11.6: %v is joined", joinOf(d, e))
	}
	if joined(t, s, api.Delta{Gone: low[:63]}, api.Delta{Gone: low[63:]}) != bothLead {
		t.Error("P11.6: two deltas of 64 keys together aren't joined")
	}
}

// threeWays asks of three deltas what P11.7 says, and tells whether both ways came about.
func threeWays(t *testing.T, d, e, f api.Delta) bool {
	t.Helper()
	left, err := delta.Join(d, e)
	if err != api.OK {
		return false
	}
	right, err := delta.Join(e, f)
	if err != api.OK {
		return false
	}
	left, leftErr := delta.Join(left, f)
	right, rightErr := delta.Join(d, right)
	if leftErr != api.OK || rightErr != api.OK {
		return false
	}
	if !sameDelta(left, right) {
		t.Fatalf("P11.7: %v and then with %s: %s and %s", joinOf(d, e), tell(f.Num, f.Set, f.Gone), tell(left.Num, left.Set, left.Gone), tell(right.Num, right.Set, right.Gone))
	}
	return true
}

func TestThreeJoined(t *testing.T) {
	small, drawn := 0, 0
	deltas := smallDeltas("abc")
	for _, d := range deltas {
		for _, e := range deltas {
			for _, f := range deltas {
				if threeWays(t, d, e, f) {
					small++
				}
			}
		}
	}
	for seed := range 5000 {
		x := seeded(seed)
		there := keysOf(x.state().Cells)
		d := x.delta(there)
		there = behind(there, d)
		e := x.delta(there)
		if threeWays(t, d, e, x.delta(behind(there, e))) {
			drawn++
		}
	}
	if small < 50000 || drawn < 1000 {
		t.Errorf("P11.7: both ways came about %d and %d times", small, drawn)
	}
}
