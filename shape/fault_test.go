package shape_test

import (
	"fmt"
	"math"
	"slices"
	"strings"
	"testing"

	"eddy/api"
)

// chain gives a plan of n tasks in a row: a source, dedups, a sink.
func chain(n int) api.Plan {
	tasks, edges := "t0:source", ""
	for k := 1; k < n; k++ {
		kind := "dedup"
		if k == n-1 {
			kind = "sink"
		}
		tasks += fmt.Sprintf(" t%d:%s", k, kind)
		edges += fmt.Sprintf(" t%d.0>t%d.0", k-1, k)
	}
	return made(1, tasks, edges)
}

// bundles gives a plan of tees with unions behind them, with so many edges between the two of each; it has twice as many tasks and two.
func bundles(widths ...int) api.Plan {
	tasks, edges, last := "s:source", "", "s.0"
	for k, width := range widths {
		tasks += fmt.Sprintf(" t%d:tee u%d:union", k, k)
		edges += fmt.Sprintf(" %s>t%d.0", last, k)
		for port := range width {
			edges += fmt.Sprintf(" t%d.%d>u%d.%d", k, port, k, port)
		}
		last = fmt.Sprintf("u%d.0", k)
	}
	return made(8, tasks+" k:sink", edges+" "+last+">k.0")
}

func TestSizes(t *testing.T) {
	for n := 2; n <= 12; n++ {
		wantValid(t, "P7.2.1", chain(n))
	}
	wantFault(t, "P7.2.1", chain(13), 0, api.ErrShapeSize)
	wantFault(t, "P7.2.1", chain(14), 0, api.ErrShapeSize)
	wantFault(t, "P7.2.1", api.Plan{Cap: 1, Tasks: make([]api.Task, 1<<16)}, 0, api.ErrShapeSize)
	if p := bundles(4, 4, 4, 4, 2); len(p.Tasks) != 12 || len(p.Edges) != 24 {
		t.Fatalf("%d tasks, %d edges", len(p.Tasks), len(p.Edges))
	}
	wantValid(t, "P7.2.1", bundles(4, 4, 4, 4, 2))
	wantFault(t, "P7.2.1", bundles(4, 4, 4, 4, 3), 0, api.ErrShapeSize)
	wantFault(t, "P7.2.1", bundles(4, 4, 4, 4, 4), 0, api.ErrShapeSize)
	for _, n := range []int{25, 26, 1000, 1 << 16} {
		wantFault(t, "P7.2.1", turned(loop(), func(p *api.Plan) { p.Edges = make([]api.Edge, n) }), 0, api.ErrShapeSize)
	}
	for bound := 1; bound <= 8; bound++ {
		wantValid(t, "P7.2.1", turned(loop(), func(p *api.Plan) { p.Cap = bound }))
	}
	for _, bound := range []int{math.MinInt, -8, -1, 0, 9, 10, 1<<32 + 1, math.MaxInt} {
		wantFault(t, "P7.2.1", turned(loop(), func(p *api.Plan) { p.Cap = bound }), 0, api.ErrShapeSize)
	}
}

func TestNoTasks(t *testing.T) {
	for _, edges := range [][]api.Edge{nil, {}, {{}}, {{From: -1, Out: 9, To: 7, In: -9}}, make([]api.Edge, 30), loop().Edges} {
		for _, bound := range []int{0, 1, 8, 9} {
			wantFault(t, "P7.2.1", api.Plan{Cap: bound, Edges: edges}, 0, api.ErrShapeSize)
			wantFault(t, "P7.2.1", api.Plan{Cap: bound, Tasks: []api.Task{}, Edges: edges}, 0, api.ErrShapeSize)
		}
	}
}

func TestNames(t *testing.T) {
	for task := range 4 {
		named := func(name string) api.Plan {
			return turned(loop(), func(p *api.Plan) { p.Tasks[task].Name = name })
		}
		for _, name := range []string{"a", "z", "b0", "b9", "abcdefgh", "a1234567", "zzzzzzzz", "q1w2"} {
			wantValid(t, "P7.2.2", named(name))
		}
		for _, name := range []string{
			"", "0", "9", "1a", "0abcdefg", "abcdefghi", "a12345678", "A", "aB", "Abc", "a b", " a", "a ", "a.b", "a_b", "a-", "-a", "_", "a\x00", "\x00", "a\n", "\na", "é", "aé", "a\xff", "`", "{", "a`", "a{", "a/", "a:", strings.Repeat("a", 1<<20),
		} {
			wantFault(t, "P7.2.2", named(name), task, api.ErrShapeName)
		}
		for c := range 256 {
			letter, digit := c >= 'a' && c <= 'z', c >= '0' && c <= '9'
			for _, name := range []string{string([]byte{byte(c)}), string([]byte{byte(c), 'q'}), string([]byte{'q', byte(c)}), string([]byte{'q', byte(c), 'q'})} {
				if slices.ContainsFunc(loop().Tasks, func(t api.Task) bool { return t.Name == name }) {
					continue
				}
				if letter || digit && name[0] == 'q' {
					wantValid(t, "P7.2.2", named(name))
				} else {
					wantFault(t, "P7.2.2", named(name), task, api.ErrShapeName)
				}
			}
		}
	}
}

func TestNamesThatStandTwice(t *testing.T) {
	for a := range 4 {
		for b := a + 1; b < 4; b++ {
			for _, name := range []string{"x", "abcdefgh", "x1"} {
				wantFault(t, "P7.2.2", turned(loop(), func(p *api.Plan) { p.Tasks[a].Name, p.Tasks[b].Name = name, name }), b, api.ErrShapeName)
				wantValid(t, "P7.2.2", turned(loop(), func(p *api.Plan) { p.Tasks[a].Name, p.Tasks[b].Name = name, name[:len(name)-1]+"y" }))
			}
			// Of two that are wrong alike the first is wrong already.
			wantFault(t, "P7.2.2", turned(loop(), func(p *api.Plan) { p.Tasks[a].Name, p.Tasks[b].Name = "X", "X" }), a, api.ErrShapeName)
		}
	}
	wantFault(t, "P7.2.2", turned(loop(), func(p *api.Plan) {
		for k := range p.Tasks {
			p.Tasks[k].Name = "same"
		}
	}), 1, api.ErrShapeName)
	wantFault(t, "P7.2.2", turned(chain(12), func(p *api.Plan) { p.Tasks[11].Name = p.Tasks[0].Name }), 11, api.ErrShapeName)
}

func TestKinds(t *testing.T) {
	for task := range 4 {
		for _, kind := range []int{math.MinInt, -13, -1, 0, 14, 15, 99, 1<<32 + 13, math.MaxInt} {
			wantFault(t, "P7.2.3", turned(loop(), func(p *api.Plan) { p.Tasks[task].Kind = kind }), task, api.ErrShapeKind)
		}
	}
	for _, r := range table {
		wantValid(t, "P7.2.3", around(r.name, r.inLow, r.outLow))
		wantValid(t, "P7.2.3", around(r.name, r.inHigh, r.outHigh))
	}
}

func TestNums(t *testing.T) {
	tops := map[string][2]int{"source": {0, 3}, "window": {1, 6}, "tail": {0, 9}}
	for _, r := range table {
		low, high := tops[r.name][0], tops[r.name][1]
		for _, num := range []int{math.MinInt, -1 << 32, -10, -2, -1, 0, 1, 2, 3, 4, 5, 6, 7, 8, 9, 10, 11, 1 << 32, 1<<32 + 1, math.MaxInt} {
			p := turned(around(r.name, r.inLow, r.outLow), func(p *api.Plan) { p.Tasks[0].Num = num })
			if num >= low && num <= high {
				wantValid(t, "P7.2.3", p)
			} else {
				wantFault(t, "P7.2.3", p, 0, api.ErrShapeKind)
			}
		}
	}
}

func TestExpressions(t *testing.T) {
	counts := map[string]int{"map": 2, "filter": 1, "fold": 2, "split": 1, "tail": 1}
	for _, r := range table {
		spoken := func(exprs ...string) api.Plan {
			return turned(around(r.name, r.inLow, r.outLow), func(p *api.Plan) { p.Tasks[0].Exprs = exprs })
		}
		for n := range 6 {
			if p := spoken(slices.Repeat([]string{"val"}, n)...); n == counts[r.name] {
				wantValid(t, "P7.2.4", p)
			} else {
				wantFault(t, "P7.2.4", p, 0, api.ErrShapeExpr)
			}
			wantFault(t, "P7.2.4", spoken(slices.Repeat([]string{"1 +"}, n+1)...), 0, api.ErrShapeExpr)
		}
		if counts[r.name] == 0 {
			wantValid(t, "P7.2.4", spoken([]string{}...))
		}
		for place := range counts[r.name] {
			with := func(text string) api.Plan {
				exprs := slices.Repeat([]string{"key"}, counts[r.name])
				exprs[place] = text
				return spoken(exprs...)
			}
			for _, text := range []string{"1", " ( val ) ", "if val then 1 else [key, acc, hops]", strings.Repeat("1+", 49) + "10", strings.Repeat("(", 10) + "1" + strings.Repeat(")", 10)} {
				wantValid(t, "P7.2.4", with(text))
			}
			for _, text := range []string{"", " ", "1 +", "vall", "9223372036854775808", `"`, "[1,", "1 1", "\x00", "A", strings.Repeat("1+", 50) + "1", strings.Repeat("(", 11) + "1" + strings.Repeat(")", 11), strings.Repeat(" ", 1<<20)} {
				wantFault(t, "P7.2.4", with(text), 0, api.ErrShapeExpr)
			}
		}
	}
}

func TestNumbersOfEdges(t *testing.T) {
	for edge := range 4 {
		for _, c := range []struct {
			field func(e *api.Edge) *int
			high  int
		}{
			{func(e *api.Edge) *int { return &e.From }, 3},
			{func(e *api.Edge) *int { return &e.To }, 3},
			{func(e *api.Edge) *int { return &e.Out }, 3},
			{func(e *api.Edge) *int { return &e.In }, 3},
		} {
			for _, n := range []int{math.MinInt, -1 << 32, -2, -1, c.high + 1, c.high + 2, 12, 1 << 32, math.MaxInt} {
				wantFault(t, "P7.2.5", turned(loop(), func(p *api.Plan) { *c.field(&p.Edges[edge]) = n }), edge, api.ErrShapeEdge)
			}
			for n := range c.high + 1 {
				p := turned(loop(), func(p *api.Plan) { *c.field(&p.Edges[edge]) = n })
				if _, _, e := modelBuild(p); e == api.ErrShapeEdge {
					t.Errorf("the model: an edge's number %d is out of its range", n)
				}
				agrees(t, p)
			}
		}
	}
	// The ports' range is that of all kinds: the greatest port of a union and of a tee.
	wantValid(t, "P7.2.5", around("union", 4, 1))
	wantValid(t, "P7.2.5", around("tee", 1, 4))
	wantFault(t, "P7.2.5", around("union", 5, 1), 4, api.ErrShapeEdge)
	wantFault(t, "P7.2.5", around("tee", 1, 5), 5, api.ErrShapeEdge)
	// Any number of a task is one, the first and the last too.
	wantValid(t, "P7.2.5", made(1, "k:sink s:source", "s.0>k.0"))
	wantFault(t, "P7.2.5", turned(chain(12), func(p *api.Plan) { p.Edges[10].To = 12 }), 10, api.ErrShapeEdge)
}
