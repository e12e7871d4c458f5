package shape_test

import (
	"cmp"
	"fmt"
	"runtime"
	"slices"
	"testing"
	"unsafe"

	"eddy/api"
	"eddy/shape"
)

// A strip is where a list lies, its spare room in; it keeps the list's memory from being handed out anew.
type strip struct {
	of       string
	from, to uintptr
	held     any
}

func stripOf[T any](of string, list []T) strip {
	list = list[:cap(list)]
	from := uintptr(unsafe.Pointer(unsafe.SliceData(list)))
	var item T
	return strip{of, from, from + uintptr(len(list))*unsafe.Sizeof(item), list}
}

// answered gives the strips of all lists of a shape.
func answered(of string, s api.Shape) []strip {
	all := []strip{stripOf(of+".Ins", s.Ins), stripOf(of+".Outs", s.Outs), stripOf(of+".Back", s.Back)}
	for k, l := range [][]int{s.Order, s.Sources, s.Sinks, s.Mate, s.Depth} {
		all = append(all, stripOf(fmt.Sprintf("%s, list %d", of, k), l))
	}
	for k := range s.Ins {
		all = append(all, stripOf(fmt.Sprintf("%s.Ins[%d]", of, k), s.Ins[k]), stripOf(fmt.Sprintf("%s.Outs[%d]", of, k), s.Outs[k]))
	}
	return all
}

// handed gives the strips of all lists of a plan.
func handed(p api.Plan) []strip {
	all := []strip{stripOf("Tasks", p.Tasks), stripOf("Edges", p.Edges)}
	for _, t := range p.Tasks {
		all = append(all, stripOf("Exprs of "+t.Name, t.Exprs))
	}
	return all
}

// apart tells which two lists share memory.
func apart(t *testing.T, promise string, all []strip) {
	t.Helper()
	slices.SortFunc(all, func(a, b strip) int { return cmp.Compare(a.from, b.from) })
	last := strip{}
	for _, s := range all {
		if s.from == s.to {
			continue
		}
		if s.from < last.to {
			t.Errorf("%s: %s and %s share memory", promise, last.of, s.of)
		}
		last = s
	}
	runtime.KeepAlive(all)
}

// roomy copies a plan so that behind every list there is spare room that is no zeros.
func roomy(p api.Plan) api.Plan {
	p.Tasks = behind(p.Tasks, api.Task{Name: "spare", Kind: api.Sink, Num: 88, Exprs: []string{"spare"}})
	for k := range p.Tasks {
		p.Tasks[k].Exprs = behind(p.Tasks[k].Exprs, "spare")
	}
	p.Edges = behind(p.Edges, api.Edge{From: 8, Out: 8, To: 8, In: 8})
	return p
}

func behind[T any](list []T, spare T) []T {
	return slices.Concat(list, []T{spare, spare, spare})[: len(list) : len(list)+3]
}

// wholeText writes a plan and the spare room behind its lists.
func wholeText(p api.Plan) string {
	s := text(p) + text(p.Tasks[:cap(p.Tasks)]) + text(p.Edges[:cap(p.Edges)])
	for _, t := range p.Tasks {
		s += text(t.Exprs[:cap(t.Exprs)])
	}
	return s
}

// scribble writes over all lists of a shape and their spare room.
func scribble(s api.Shape) {
	for k := range s.Ins {
		fill(s.Ins[k], 7777)
		fill(s.Outs[k], 7777)
	}
	fill(s.Ins, []int{7777})
	fill(s.Outs, []int{7777})
	fill(s.Back, true)
	for _, l := range [][]int{s.Order, s.Sources, s.Sinks, s.Mate, s.Depth} {
		fill(l, 7777)
	}
}

func fill[T any](list []T, with T) {
	list = list[:cap(list)]
	for k := range list {
		list[k] = with
	}
}

// somePlans are valid plans and others.
func somePlans() []api.Plan {
	all := []api.Plan{loop(), chain(2), chain(12), bundles(4, 4, 4, 4, 2), manyTasks(), {}, {Cap: 1, Tasks: make([]api.Task, 13)}}
	for _, b := range blows() {
		p := manyTasks()
		b.strike(&p)
		all = append(all, p)
	}
	for seed := range 100 {
		all = append(all, seeded(seed).plan(), seeded(seed).spoilt(seeded(seed).plan()))
	}
	return all
}

// TestWhatIsHandedInStays: lists and the spare room behind them; and the spare room isn't looked at.
func TestWhatIsHandedInStays(t *testing.T) {
	for _, p := range somePlans() {
		given := roomy(p)
		before := wholeText(given)
		s, at, e := shape.Build(given)
		wantS, wantAt, wantE := modelBuild(p)
		if !same(s, wantS) || at != wantAt || e != wantE {
			t.Errorf("P7.2: Build of %s with spare room behind it answers error %d at %d, want error %d at %d", drawn(p), e, at, wantE, wantAt)
		}
		all := append(handed(given), answered("the shape", s)...)
		for from := range len(p.Tasks) {
			all = append(all, stripOf(fmt.Sprintf("Reach from %d", from), shape.Reach(given, from)))
			for range shape.Walk(given, from) {
			}
		}
		apart(t, "P7, The face", all)
		if wholeText(given) != before {
			t.Errorf("P7, The face: a call changes %s, or the spare room behind it", drawn(p))
		}
		scribble(s)
		if wholeText(given) != before {
			t.Errorf("P7, The face: the shape of %s shares memory with the plan", drawn(p))
		}
	}
}

// TestAnswersAreNewMemory: no two lists, of one answer or of two, share any; and what is written into one, or behind it, comes out of no other.
func TestAnswersAreNewMemory(t *testing.T) {
	for _, p := range somePlans() {
		wantS, _, wantE := modelBuild(p)
		if wantE != api.OK {
			continue
		}
		first, _, _ := shape.Build(p)
		second, _, _ := shape.Build(p)
		apart(t, "P7, The face", append(answered("one shape", first), answered("the other", second)...))
		appended(first)
		if !same(second, wantS) {
			t.Errorf("P7, The face: what is appended to lists of one shape of %s is seen in another", drawn(p))
		}
		scribble(first)
		third, _, _ := shape.Build(p)
		if !same(second, wantS) || !same(third, wantS) {
			t.Errorf("P7, The face: what is written into one shape of %s is seen in another", drawn(p))
		}
		wantReachApart(t, p)
	}
}

// appended appends to each list of a shape, and tells nothing: what is behind a list isn't another one's.
func appended(s api.Shape) {
	for k := range s.Ins {
		s.Ins[k] = append(s.Ins[k], 7777, 7777, 7777)
		s.Outs[k] = append(s.Outs[k], 7777, 7777, 7777)
	}
	for _, l := range [][]int{s.Order, s.Sources, s.Sinks, s.Mate, s.Depth} {
		_ = append(l, 7777, 7777, 7777)
	}
	_ = append(s.Back, true, true, true)
}

func wantReachApart(t *testing.T, p api.Plan) {
	t.Helper()
	for from := range len(p.Tasks) {
		want, _ := modelWays(p, from)
		first, second := shape.Reach(p, from), shape.Reach(p, from)
		apart(t, "P7.5", []strip{stripOf("one answer", first), stripOf("the other", second)})
		fill(first, true)
		_ = append(first, true, true)
		if third := shape.Reach(p, from); !slices.Equal(second, want) || !slices.Equal(third, want) {
			t.Errorf("P7.5: two answers of Reach of %s from %d share memory", drawn(p), from)
		}
	}
}

// TestTheListsOfOneShapeCanBeAppendedTo: each keeps what it was, and what was appended to it alone.
func TestTheListsOfOneShapeCanBeAppendedTo(t *testing.T) {
	for seed := range 200 {
		p := seeded(seed).plan()
		s, _, _ := shape.Build(p)
		want := modelShape(p)
		for k := range s.Ins {
			s.Ins[k], want.Ins[k] = append(s.Ins[k], 100+k), append(slices.Clip(want.Ins[k]), 100+k)
			s.Outs[k], want.Outs[k] = append(s.Outs[k], 200+k), append(slices.Clip(want.Outs[k]), 200+k)
		}
		for k, l := range []*[]int{&s.Order, &s.Sources, &s.Sinks, &s.Mate, &s.Depth} {
			*l = append(*l, 300+k)
		}
		for k, l := range []*[]int{&want.Order, &want.Sources, &want.Sinks, &want.Mate, &want.Depth} {
			*l = append(slices.Clip(*l), 300+k)
		}
		if !same(s, want) {
			t.Errorf("P7, The face: what is appended to one list of the shape of %s is seen in another: %s", drawn(p), text(s))
		}
	}
}

// TestAnEmptyListIsAsGoodAsNone: handed in as nil or as an empty list, with and without spare room.
func TestAnEmptyListIsAsGoodAsNone(t *testing.T) {
	for _, whole := range []api.Plan{loop(), chain(3), made(1, "s:source", "")} {
		bare, empty := clone(whole), clone(whole)
		for k := range whole.Tasks {
			if len(whole.Tasks[k].Exprs) == 0 {
				bare.Tasks[k].Exprs, empty.Tasks[k].Exprs = nil, make([]string, 0, 3)
			}
		}
		if len(whole.Edges) == 0 {
			bare.Edges, empty.Edges = nil, make([]api.Edge, 0, 3)
		}
		a, atA, eA := shape.Build(bare)
		b, atB, eB := shape.Build(empty)
		if !same(a, b) || atA != atB || eA != eB || eA != api.OK && eA != api.ErrShapePort {
			t.Errorf("P7, The face: with nil lists and with empty ones Build answers %s, %d, %d and %s, %d, %d", text(a), atA, eA, text(b), atB, eB)
		}
	}
	wantFault(t, "P7.2.1", api.Plan{Cap: 1, Tasks: make([]api.Task, 0, 3), Edges: make([]api.Edge, 0, 3)}, 0, api.ErrShapeSize)
}
