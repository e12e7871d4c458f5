package shape_test

import (
	"fmt"
	"math"
	"reflect"
	"slices"
	"strconv"
	"strings"
	"testing"

	"eddy/api"
	"eddy/shape"
)

// text writes a thing so that a nil list and an empty one look the same, and unlike things don't.
func text(thing any) string { return strings.ReplaceAll(fmt.Sprintf("%#v", thing), "(nil)", "{}") }

func same(a, b any) bool { return reflect.DeepEqual(a, b) || text(a) == text(b) }

// drawn writes a plan as made reads it, as far as it can be read.
func drawn(p api.Plan) string {
	name := func(task int) string {
		if task < 0 || task >= len(p.Tasks) {
			return strconv.Itoa(task)
		}
		return strconv.QuoteToASCII(p.Tasks[task].Name)
	}
	s := fmt.Sprintf("cap %d,", p.Cap)
	for _, t := range p.Tasks[:min(20, len(p.Tasks))] {
		s += fmt.Sprintf(" %.20q:%d=%d%.40q", t.Name, t.Kind, t.Num, t.Exprs[:min(5, len(t.Exprs))])
	}
	for _, e := range p.Edges[:min(30, len(p.Edges))] {
		s += fmt.Sprintf(" %.20s.%d>%.20s.%d", name(e.From), e.Out, name(e.To), e.In)
	}
	return s
}

// made makes a plan. Its tasks are said as "name:kind" or "name:kind=num"; without a num they have the least that the kind may have, and for each expression that the kind wants `val`. Its edges are said as "from.out>to.in".
func made(bound int, tasks, edges string) api.Plan {
	p := api.Plan{Cap: bound}
	numbers := map[string]int{}
	for _, word := range strings.Fields(tasks) {
		name, kind, _ := strings.Cut(word, ":")
		kind, num, _ := strings.Cut(kind, "=")
		r := rowNamed(kind)
		t := api.Task{Name: name, Kind: r.kind, Num: r.numLow, Exprs: slices.Repeat([]string{"val"}, r.exprs)}
		if num != "" {
			t.Num, _ = strconv.Atoi(num)
		}
		numbers[name] = len(p.Tasks)
		p.Tasks = append(p.Tasks, t)
	}
	for _, word := range strings.Fields(edges) {
		from, to, _ := strings.Cut(word, ">")
		var e api.Edge
		e.From, e.Out = port(numbers, from)
		e.To, e.In = port(numbers, to)
		p.Edges = append(p.Edges, e)
	}
	return p
}

func port(numbers map[string]int, word string) (task, port int) {
	name, number, _ := strings.Cut(word, ".")
	task, ok := numbers[name]
	port, err := strconv.Atoi(number)
	if !ok || err != nil {
		panic("no port: " + word)
	}
	return task, port
}

// loop is the plan of the chapter's first example.
func loop() api.Plan {
	return made(2, "s:source h:head t:tail=3 k:sink", "s.0>h.0 h.0>t.0 t.0>h.1 t.1>k.0")
}

// clone copies a plan, so that it can be changed without the other.
func clone(p api.Plan) api.Plan {
	p.Tasks, p.Edges = slices.Clone(p.Tasks), slices.Clone(p.Edges)
	for k := range p.Tasks {
		p.Tasks[k].Exprs = slices.Clone(p.Tasks[k].Exprs)
	}
	return p
}

// turned gives a copy of a plan, changed by turn.
func turned(p api.Plan, turn func(p *api.Plan)) api.Plan {
	p = clone(p)
	turn(&p)
	return p
}

// around gives a plan, valid if the numbers of ports are, with a task x of the kind as its task 0: every in port but a head's second has a source of its own, every out port but a tail's first a sink; a head has a tail behind it, a tail a head ahead of it.
func around(kind string, ins, outs int) api.Plan {
	tasks, edges := "x:"+kind, ""
	if kind == "head" {
		return made(1, "x:head t:tail s:source k:sink", "s.0>x.0 x.0>t.0 t.0>x.1 t.1>k.0")
	}
	if kind == "tail" {
		return made(1, "x:tail h:head s:source k:sink", "s.0>h.0 h.0>x.0 x.0>h.1 x.1>k.0")
	}
	for k := range ins {
		tasks += fmt.Sprintf(" s%d:source", k)
		edges += fmt.Sprintf(" s%d.0>x.%d", k, k)
	}
	for k := range outs {
		tasks += fmt.Sprintf(" k%d:sink", k)
		edges += fmt.Sprintf(" x.%d>k%d.0", k, k)
	}
	return made(1, tasks, edges)
}

// A step is what a walk gives.
type step struct{ task, distance int }

// steps goes through a walk to its end.
func steps(p api.Plan, from int) []step {
	var all []step
	for task, distance := range shape.Walk(p, from) {
		all = append(all, step{task, distance})
	}
	return all
}

// wrongTasks are numbers of no task of a plan.
func wrongTasks(p api.Plan) []int {
	return []int{math.MinInt, -2, -1, len(p.Tasks), len(p.Tasks) + 1, math.MaxInt}
}

// wantFault tells where Build, or the model, answers another fault, or where a call answers something else than a fault.
func wantFault(t *testing.T, promise string, p api.Plan, at int, e api.Errno) {
	t.Helper()
	s, gotAt, gotE := shape.Build(p)
	if gotAt != at || gotE != e {
		t.Errorf("%s: Build of %s answers error %d at %d, want error %d at %d", promise, drawn(p), gotE, gotAt, e, at)
	}
	if !same(s, api.Shape{}) {
		t.Errorf("%s: Build of %s answers the shape %s beside error %d", promise, drawn(p), text(s), gotE)
	}
	if s, gotAt, gotE := modelBuild(p); gotAt != at || gotE != e || !same(s, api.Shape{}) {
		t.Errorf("the model of %s answers error %d at %d, want error %d at %d", drawn(p), gotE, gotAt, e, at)
	}
	for from := -1; from <= min(13, len(p.Tasks)); from++ {
		wantNoWay(t, p, from)
	}
}

// wantNoWay tells where Reach or Walk answers something where there is nothing to answer.
func wantNoWay(t *testing.T, p api.Plan, from int) {
	t.Helper()
	if r := shape.Reach(p, from); len(r) != 0 {
		t.Errorf("P7.5: Reach of %s from %d answers %v, want no list", drawn(p), from, r)
	}
	if w := steps(p, from); len(w) != 0 {
		t.Errorf("P7.6: Walk of %s from %d gives %v, want nothing", drawn(p), from, w)
	}
}

// wantValid tells where Build, or the model, finds a fault.
func wantValid(t *testing.T, promise string, p api.Plan) api.Shape {
	t.Helper()
	s, at, e := shape.Build(p)
	if at != 0 || e != api.OK {
		t.Errorf("%s: Build of %s answers error %d at %d, want none", promise, drawn(p), e, at)
	}
	agrees(t, p)
	return s
}

// agrees tells where a call answers another thing than the model. It tells whether the plan is valid.
func agrees(t *testing.T, p api.Plan) bool {
	t.Helper()
	s, at, e := shape.Build(p)
	wantS, wantAt, wantE := modelBuild(p)
	if at != wantAt || e != wantE {
		t.Errorf("P7.2: Build of %s answers error %d at %d, want error %d at %d", drawn(p), e, at, wantE, wantAt)
	}
	if !same(s, wantS) {
		t.Errorf("P7.3: Build of %s answers the shape\n%s, want\n%s", drawn(p), text(s), text(wantS))
	}
	return wantE == api.OK
}

// agreesOnWays tells where Reach or Walk answers another thing than the model.
func agreesOnWays(t *testing.T, p api.Plan) {
	t.Helper()
	for from := range len(p.Tasks) {
		reached, walk := modelWays(p, from)
		if r := shape.Reach(p, from); !slices.Equal(r, reached) {
			t.Errorf("P7.5: Reach of %s from %d answers %v, want %v", drawn(p), from, r, reached)
		}
		if w := steps(p, from); !slices.Equal(w, walk) {
			t.Errorf("P7.6: Walk of %s from %d gives %v, want %v", drawn(p), from, w, walk)
		}
	}
	for _, from := range wrongTasks(p) {
		wantNoWay(t, p, from)
	}
}

func TestNumbersAreTheChapters(t *testing.T) {
	got := []int{
		int(api.ErrShapeSize), int(api.ErrShapeName), int(api.ErrShapeKind), int(api.ErrShapeExpr), int(api.ErrShapeEdge), int(api.ErrShapePort), int(api.ErrShapePair), int(api.ErrShapeCycle),
		api.MaxTasks, api.MaxEdges, api.MaxPorts, api.MaxCap, api.MaxName, api.MaxTapes, api.MaxItems, api.MaxHops,
	}
	for k, want := range []int{70, 71, 72, 73, 74, 75, 76, 77, 12, 24, 4, 8, 8, 4, 6, 9} {
		if got[k] != want {
			t.Errorf("number %d is %d, want %d", k, got[k], want)
		}
	}
}
