package flow_test

import (
	"math"
	"slices"
	"strings"
	"testing"

	"eddy/api"
	"eddy/pen"
)

// wrongRecords gives records that aren't valid, one for each error of value.CheckRecord.
func wrongRecords() []api.Record {
	return []api.Record{
		{Key: strings.Repeat("k", 13)},
		{Val: api.Value{Kind: 4}},
		{Val: api.Value{Kind: -1}},
		{Val: api.Value{Int: 1}},
		{Val: api.Value{Kind: api.Text, Text: strings.Repeat("t", 25)}},
		{Val: api.Value{Kind: api.List, Items: make([]api.Value, 7)}},
		{Val: api.Value{Kind: api.List, Items: []api.Value{val("[0, 0, 0, 0, 0]"), val("[0, 0, 0, 0, 0]")}}},
		{Val: api.Value{Kind: api.List, Items: []api.Value{{Kind: api.List, Items: []api.Value{{Kind: api.List, Items: []api.Value{{Kind: api.List}}}}}}}},
		{Loops: []int{0, 0, 0, 0}},
		{Loops: []int{10}},
		{Loops: []int{0, -1}},
	}
}

// greatRecords gives valid records at the limits of what is valid.
func greatRecords() []api.Record {
	return []api.Record{
		{Key: strings.Repeat("k", 12), Val: val("[[[1, 2, 3, 4, 5, 6], 7], 8]")},
		{Key: "\xff\x00", Val: api.Value{Kind: api.Text, Text: strings.Repeat("\xfe", 24)}},
		{Val: api.Value{Kind: api.Int, Int: math.MinInt64}},
	}
}

func TestAPlansErrorComesFirst(t *testing.T) {
	wrong := [][][]api.Record{nil, make([][]api.Record, 5), {make([]api.Record, 65)}, {wrongRecords()}, {recs("a=1@0")}, {recs("a=1")}}
	for _, c := range []struct {
		turn func(p *api.Plan)
		want api.Errno
	}{
		{func(p *api.Plan) { *p = api.Plan{} }, api.ErrShapeSize},
		{func(p *api.Plan) { p.Cap = 0 }, api.ErrShapeSize},
		{func(p *api.Plan) { p.Tasks[1].Name = "s" }, api.ErrShapeName},
		{func(p *api.Plan) { p.Tasks[0].Kind = 14 }, api.ErrShapeKind},
		{func(p *api.Plan) { p.Tasks[0].Num = 4 }, api.ErrShapeKind},
		{func(p *api.Plan) { p.Tasks[0].Num = -1 }, api.ErrShapeKind},
		{func(p *api.Plan) { p.Tasks[0].Exprs = []string{"val"} }, api.ErrShapeExpr},
		{func(p *api.Plan) { p.Edges[0].To = 2 }, api.ErrShapeEdge},
		{func(p *api.Plan) { p.Edges = nil }, api.ErrShapePort},
		{func(p *api.Plan) {
			*p = planned("s source 0", "h head", "t tail 0 ; 1", "k sink", "s.0 h.1", "t.0 h.0", "h.0 t.0", "t.1 k.0")
		}, api.ErrShapePair},
		{func(p *api.Plan) { *p = planned("u union", "t tee", "u.0 t.0", "t.0 u.0") }, api.ErrShapeCycle},
	} {
		for _, tapes := range wrong {
			p := line()
			c.turn(&p)
			refusesNew(t, "P9.1.1", p, tapes, c.want)
			newAsModel(t, p, tapes)
		}
	}
}

func TestHowManyTapes(t *testing.T) {
	for num := range 4 {
		p := line()
		p.Tasks[0].Num = num
		for count := range 7 {
			if tapes := make([][]api.Record, count); num < count && count <= 4 {
				made(t, p, tapes)
			} else {
				refusesNew(t, "P9.1.2: source's number and number of tapes", p, tapes, api.ErrFlowTape)
			}
		}
	}
	p := planned("a source 1", "b source 2", "k sink", "l sink", "a.0 k.0", "b.0 l.0")
	refusesNew(t, "P9.1.2: the second source has no tape", p, make([][]api.Record, 2), api.ErrFlowTape)
	p.Tasks[0].Num, p.Tasks[1].Num = 2, 1
	refusesNew(t, "P9.1.2: the first source has no tape", p, make([][]api.Record, 2), api.ErrFlowTape)
	made(t, p, make([][]api.Record, 3))
}

// TestWhatATapeMayHold: whether a source has it or not.
func TestWhatATapeMayHold(t *testing.T) {
	for at := range 4 {
		with := func(tape []api.Record) [][]api.Record {
			tapes := lists("a=1 / a=2 / a=3 / a=4")
			tapes[at] = tape
			return tapes
		}
		long := slices.Repeat(recs("a=1"), 66)
		for _, size := range []int{0, 1, 63, 64} {
			made(t, line(), with(long[:size]))
		}
		refusesNew(t, "P9.1.2: a tape of 65", line(), with(long[:65]), api.ErrFlowTape)
		refusesNew(t, "P9.1.2: a tape of 66", line(), with(long), api.ErrFlowTape)
		for _, r := range greatRecords() {
			made(t, line(), with([]api.Record{r, r}))
		}
		for _, r := range append(wrongRecords(), recs("a=1@0 | a=1@9 | a=none@1@2@3")...) {
			for place := range 3 {
				refusesNew(t, "P9.1.2: a record that may not be on a tape", line(), with(slices.Insert(recs("a=1 | b=2"), place, r)), api.ErrFlowTape)
			}
			refusesNew(t, "P9.1.2: a record that may not be on a tape", line(), with(append(slices.Clone(long[:63]), r)), api.ErrFlowTape)
		}
		made(t, line(), with([]api.Record{{Loops: []int{}}}))
	}
}

func TestTwoSourcesOfOneTape(t *testing.T) {
	p := planned("a source 1", "b source 1", "k sink", "l sink", "a.0 k.0", "b.0 l.0")
	f := made(t, p, lists("x=9 / a=1 | b=2"))
	c := f.run(t, f.Start(), events("0.0 0.0 1.0 2.0"))
	if want := config("2 / 1 / 1 / 0", "b=2 / a=1", "a=1 /"); !same(c, want) {
		t.Errorf("P9.1: each source goes through the tape by itself: %v, want %v", tell(c), tell(want))
	}
}

func TestDrawnNews(t *testing.T) {
	found := map[api.Errno]int{}
	for seed := range 3000 {
		d := pen.Seeded(seed)
		p := d.Plan()
		tapes := d.Tapes(p, 3)
		if e := newAsModel(t, p, tapes); e != api.OK {
			t.Fatalf("%+v and %s were drawn as a plan and its tapes", p, tell(tapes))
		}
		switch d.Below(5) {
		case 0:
			tapes = tapes[:d.Below(len(tapes))]
		case 1:
			tapes = append(tapes, tapes...)
		case 2:
			k := d.Below(len(tapes))
			tapes[k] = append(tapes[k], d.Record(3), pen.One(d, d.Record(0), wrongRecords()...))
		case 3:
			k := d.Below(len(tapes))
			tapes[k] = slices.Repeat(d.Records(1, 0), d.Between(63, 66))
		case 4:
			p.Cap = pen.One(d, 0, 1, 8, 9)
			p.Tasks[d.Below(len(p.Tasks))].Num = d.Below(4)
		}
		found[newAsModel(t, p, tapes)]++
	}
	if found[api.OK] < 500 || found[api.ErrFlowTape] < 500 || found[api.ErrShapeSize] < 100 || found[api.ErrShapeKind] < 100 {
		t.Errorf("the drawn errors are %v", found)
	}
}
