package pen_test

import (
	"fmt"
	"reflect"
	"slices"
	"testing"

	"eddy/api"
	"eddy/flow"
	"eddy/pen"
	"eddy/shape"
	"eddy/stage"
	"eddy/value"
)

func TestOneSeedDrawsOneThing(t *testing.T) {
	draw := func(seed int) (api.Plan, api.Config) {
		p := pen.Seeded(seed)
		plan := p.Plan()
		return plan, p.Config(plan, p.Tapes(plan, 5), 3)
	}
	for seed := range 100 {
		planA, configA := draw(seed)
		planB, configB := draw(seed)
		if !reflect.DeepEqual(planA, planB) || !reflect.DeepEqual(configA, configB) {
			t.Fatalf("seed %d draws two things", seed)
		}
		if other, _ := draw(seed + 1); reflect.DeepEqual(other, planA) {
			t.Fatalf("seeds %d and %d draw the same plan", seed, seed+1)
		}
	}
}

func TestPlansAreValid(t *testing.T) {
	met := make([]int, api.Sink+1)
	for seed := range 3000 {
		p := pen.Seeded(seed)
		plan, lean := p.Plan(), p.Lean()
		_, at, e := shape.Build(plan)
		if e != api.OK {
			t.Fatalf("seed %d: error %d at %d of %+v", seed, e, at, plan)
		}
		sh, at, e := shape.Build(lean)
		if e != api.OK {
			t.Fatalf("seed %d: error %d at %d of %+v", seed, e, at, lean)
		}
		for _, ins := range sh.Ins {
			if len(ins) > 1 {
				t.Fatalf("seed %d: a lean plan has a task with %d in ports: %+v", seed, len(ins), lean)
			}
		}
		for _, k := range plan.Tasks {
			met[k.Kind]++
		}
	}
	if slices.Min(met[1:]) < 100 {
		t.Errorf("a kind is drawn too seldom: %v", met)
	}
}

func TestConfigsFit(t *testing.T) {
	cells, records, ends := map[int]int{}, map[int]int{}, map[bool]int{}
	for seed := range 2000 {
		p := pen.Seeded(seed)
		plan := p.Plan()
		tapes := p.Tapes(plan, 5)
		f, e := flow.New(plan, tapes)
		if e != api.OK {
			t.Fatalf("seed %d: error %d of the tapes %v", seed, e, tapes)
		}
		c := p.Config(plan, tapes, 3)
		if e := f.Fits(c); e != api.OK {
			t.Fatalf("seed %d: error %d of %v", seed, e, c)
		}
		for k, s := range c.States {
			cells[len(s.Cells)]++
			if t := plan.Tasks[k]; t.Kind == api.Source {
				ends[s.Num == len(tapes[t.Num])]++
			}
		}
		for _, l := range c.Lanes {
			records[len(l)]++
		}
	}
	if cells[1] < 100 || cells[api.MaxCells] < 100 || records[0] < 100 || records[3] < 100 || ends[true] < 100 || ends[false] < 100 {
		t.Errorf("drawn too seldom: numbers of cells %v, of records in lanes %v, sources at their end %v", cells, records, ends)
	}
}

func TestValuesRecordsAndStates(t *testing.T) {
	met := map[int]int{}
	for seed := range 3000 {
		p := pen.Seeded(seed)
		v, r, tape := p.Value(), p.Record(3), p.Record(0)
		met[v.Kind]++
		if value.Check(v) != api.OK || value.CheckRecord(r) != api.OK || value.CheckRecord(tape) != api.OK || len(tape.Loops) != 0 {
			t.Fatalf("seed %d: %v, %v, %v", seed, v, r, tape)
		}
		window := api.Task{Kind: api.Window, Num: p.Between(1, 6)}
		g, _ := stage.New(window, 1, 1)
		if s := p.State(window, 0); g.Legal(s) != api.OK {
			t.Fatalf("seed %d: a window of %d can't have the state %v", seed, window.Num, s)
		}
	}
	for kind := range 4 {
		if met[kind] < 100 {
			t.Errorf("a kind of values is drawn too seldom: %v", met)
		}
	}
}

func TestNumbers(t *testing.T) {
	p := pen.Seeded(1)
	var below, between [6]int
	for range 2000 {
		below[p.Below(3)]++
		between[p.Between(2, 5)]++
		order := p.Order(5)
		if slices.Sort(order); !slices.Equal(order, []int{0, 1, 2, 3, 4}) {
			t.Fatalf("no order of five numbers: %v", order)
		}
	}
	for k := range 6 {
		if (below[k] > 500) != (k < 3) || (between[k] > 350) != (k >= 2) {
			t.Errorf("numbers below 3: %v, between 2 and 5: %v", below, between)
		}
	}
	if p.Below(0) != 0 || p.Below(-3) != 0 {
		t.Error("there is no number below 0 to be drawn")
	}
}

func TestRows(t *testing.T) {
	for count, want := range []string{"[[]]", "[[a] [b] [c]]", "[[a a] [a b] [a c] [b a] [b b] [b c] [c a] [c b] [c c]]"} {
		var got [][]string
		for row := range pen.Rows([]string{"a", "b", "c"}, count) {
			got = append(got, slices.Clone(row))
		}
		if fmt.Sprint(got) != want {
			t.Errorf("the rows of %d are %v, want %s", count, got, want)
		}
	}
	left := 0
	for range pen.Rows([]int{1, 2, 3}, 4) {
		if left++; left == 7 {
			break
		}
	}
	if left != 7 {
		t.Errorf("rows that are left at the 7th are gone through up to number %d", left)
	}
}

func TestRoomyAndFill(t *testing.T) {
	given := []int{1, 2}
	roomy := pen.Roomy(given, 77, func(n int) int { return 10 * n })
	if whole := roomy[:cap(roomy)]; len(roomy) != 2 || !slices.Equal(whole, []int{10, 20, 77, 77, 77}) {
		t.Errorf("a list with spare room is %v in %v", roomy, whole)
	}
	pen.Fill([][]int{given, nil, roomy}, 5)
	if !slices.Equal(given, []int{5, 5}) || !slices.Equal(roomy[:3], []int{5, 5, 77}) {
		t.Errorf("lists that are written over are %v and %v", given, roomy[:3])
	}
}

func TestApart(t *testing.T) {
	same := func(a, b int) bool { return a == b }
	long := make([]int, 6)
	for k, x := range []struct {
		lists [][]int
		apart bool
	}{
		{nil, true},
		{[][]int{nil, {}, nil}, true},
		{[][]int{make([]int, 3), make([]int, 3), {7}}, true},
		{[][]int{long[:3], long[3:], {7}}, true},
		{[][]int{long[:0], long, long[6:]}, true},
		{[][]int{long, {7}, long}, false},
		{[][]int{long[:4], long[3:]}, false},
		{[][]int{long[3:], {7}, long[:4]}, false},
		{[][]int{long, long[5:]}, false},
	} {
		if got := pen.Apart(x.lists, pen.Plain, same); got != x.apart {
			t.Errorf("number %d: the lists are apart: %v, want %v", k, got, x.apart)
		}
	}
}
