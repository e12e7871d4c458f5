package shape_test

import (
	"slices"
	"testing"

	"eddy/api"
	"eddy/pen"
	"eddy/shape"
)

// A blow makes one kind of fault in the plan of TestOfSeveralFaultsTheFirst.
type blow struct {
	err    api.Errno
	at     int
	strike func(p *api.Plan)
}

// manyTasks is a valid plan in which a fault of every kind can be made beside the others.
func manyTasks() api.Plan {
	return made(3, "s:source h:head m:map t:tail k:sink o:tee l:sink u:union v:union", "s.0>h.0 h.0>m.0 m.0>t.0 t.0>h.1 t.1>u.0 u.0>o.0 o.0>k.0 o.1>v.0 v.0>l.0")
}

func blows() []blow {
	return []blow{
		{api.ErrShapeSize, 0, func(p *api.Plan) { p.Cap = 9 }},
		{api.ErrShapeName, 7, func(p *api.Plan) { p.Tasks[7].Name = "S" }},
		{api.ErrShapeKind, 6, func(p *api.Plan) { p.Tasks[6].Num = 1 }},
		{api.ErrShapeExpr, 4, func(p *api.Plan) { p.Tasks[4].Exprs = []string{"val"} }},
		{api.ErrShapeEdge, 8, func(p *api.Plan) { p.Edges[8].In = 4 }},
		{api.ErrShapePort, 5, func(p *api.Plan) { p.Edges[6].Out = 1 }},
		{api.ErrShapePair, 0, func(p *api.Plan) { p.Edges[0].In, p.Edges[3].In = 1, 0 }},
		{api.ErrShapeCycle, 5, func(p *api.Plan) { p.Edges[4].To, p.Edges[8].To = 6, 7 }},
	}
}

// TestOfSeveralFaultsTheFirst: all sets of the eight kinds of faults, each kind at another place, mostly farther back than those of the later kinds.
func TestOfSeveralFaultsTheFirst(t *testing.T) {
	wantValid(t, "P7.2", manyTasks())
	for set := 1; set < 1<<8; set++ {
		p := manyTasks()
		first := blow{}
		for k, b := range blows() {
			if set>>k&1 == 1 {
				b.strike(&p)
				if first.strike == nil {
					first = b
				}
			}
		}
		wantFault(t, "P7.2: of several kinds the first", p, first.at, first.err)
	}
}

// TestOfOneKindTheLeastNumber: the same fault at two tasks or edges, the later one made first.
func TestOfOneKindTheLeastNumber(t *testing.T) {
	whole := made(1, "a:map b:map c:map d:map s:source k:sink", "s.0>a.0 a.0>b.0 b.0>c.0 c.0>d.0 d.0>k.0")
	wantValid(t, "P7.2", whole)
	for a := range 4 {
		for b := range a {
			two := func(turn func(p *api.Plan, at int)) api.Plan {
				return turned(whole, func(p *api.Plan) { turn(p, a); turn(p, b) })
			}
			wantFault(t, "P7.2.2: of several the least", two(func(p *api.Plan, at int) { p.Tasks[at].Name = "Bad" }), b, api.ErrShapeName)
			wantFault(t, "P7.2.3: of several the least", two(func(p *api.Plan, at int) { p.Tasks[at].Kind = 0 }), b, api.ErrShapeKind)
			wantFault(t, "P7.2.3: of several the least", two(func(p *api.Plan, at int) { p.Tasks[at].Num = at - 5 }), b, api.ErrShapeKind)
			wantFault(t, "P7.2.4: of several the least", two(func(p *api.Plan, at int) { p.Tasks[at].Exprs[at%2] = "?" }), b, api.ErrShapeExpr)
			wantFault(t, "P7.2.5: of several the least", two(func(p *api.Plan, at int) { p.Edges[at].Out = -1 }), b, api.ErrShapeEdge)
			wantFault(t, "P7.2.6: of several the least", two(func(p *api.Plan, at int) { p.Edges[at].In = 1 }), b, api.ErrShapePort)
		}
	}
}

// TestTheLeastOfACycleInEveryOrder: whatever numbers the tasks and edges have.
func TestTheLeastOfACycleInEveryOrder(t *testing.T) {
	whole := made(1, "s:source u:union o:tee m:map k:sink", "s.0>u.0 u.0>m.0 m.0>o.0 o.0>u.1 o.1>k.0")
	wantFault(t, "P7.2.8", whole, 1, api.ErrShapeCycle)
	for seed := range 200 {
		p := pen.Seeded(seed).Shuffled(whole)
		least := slices.IndexFunc(p.Tasks, func(t api.Task) bool { return t.Name == "u" || t.Name == "o" || t.Name == "m" })
		wantFault(t, "P7.2.8: of several the least", p, least, api.ErrShapeCycle)
	}
}

// TestTheChaptersExamples: numbers 1 to 5.
func TestTheChaptersExamples(t *testing.T) {
	s := wantValid(t, "P7.3, example 1", loop())
	want := api.Shape{
		Ins: [][]int{{}, {0, 2}, {1}, {3}}, Outs: [][]int{{0}, {1}, {2, 3}, {}}, Back: []bool{false, false, true, false},
		Order: []int{0, 1, 2, 3}, Sources: []int{0}, Sinks: []int{3}, Mate: []int{-1, 2, 1, -1}, Depth: []int{0, 1, 2, 3},
	}
	if !same(s, want) {
		t.Errorf("P7.3, example 1: the shape is %s, want %s", text(s), text(want))
	}
	if w := steps(loop(), 2); !slices.Equal(w, []step{{2, 0}, {1, 1}, {3, 1}}) {
		t.Errorf("P7.6, example 1: the walk from 2 is %v", w)
	}
	if r := shape.Reach(loop(), 3); !slices.Equal(r, []bool{false, false, false, true}) {
		t.Errorf("P7.5, example 1: Reach from 3 answers %v", r)
	}
	wantFault(t, "P7.2, example 2", turned(loop(), func(p *api.Plan) { p.Edges = slices.Delete(p.Edges, 2, 3) }), 1, api.ErrShapePort)
	wantFault(t, "P7.2, example 2", turned(loop(), func(p *api.Plan) { p.Edges[2].In, p.Edges[0].In = 0, 1 }), 0, api.ErrShapePair)
	wantFault(t, "P7.2, example 3", made(1, "a:union b:tee", "a.0>b.0 b.0>a.0"), 0, api.ErrShapeCycle)
	wantFault(t, "P7.2, example 4", made(1, "s:source", ""), 0, api.ErrShapePort)
	wantFault(t, "P7.2, example 4", api.Plan{Cap: 1, Edges: []api.Edge{{From: 7, Out: -1, To: 3, In: 99}}}, 0, api.ErrShapeSize)
	wantFault(t, "P7.2, example 5", api.Plan{Cap: 1, Tasks: []api.Task{{Name: "x", Kind: api.Source}, {Name: "x", Kind: 99}}}, 1, api.ErrShapeName)
}
