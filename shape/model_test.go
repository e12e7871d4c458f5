package shape_test

import (
	"regexp"
	"slices"
	"strconv"
	"strings"

	"eddy/api"
	"eddy/expr"
)

// The model: the chapter read a second time, plainly and without care for speed.

// chapterTable is the table of P7.1.
const chapterTable = `
| source | 1 | 0 | 1 | 0 to 3 | 0 |
| map | 2 | 1 | 1 | 0 | 2 |
| filter | 3 | 1 | 1 | 0 | 1 |
| fold | 4 | 1 | 1 | 0 | 2 |
| union | 5 | 1 to 4 | 1 | 0 | 0 |
| split | 6 | 1 | 1 to 4 | 0 | 1 |
| tee | 7 | 1 | 1 to 4 | 0 | 0 |
| join | 8 | 2 | 1 | 0 | 0 |
| window | 9 | 1 | 1 | 1 to 6 | 0 |
| dedup | 10 | 1 | 1 | 0 | 0 |
| head | 11 | 2 | 1 | 0 | 0 |
| tail | 12 | 1 | 2 | 0 to 9 | 1 |
| sink | 13 | 1 | 0 | 0 | 0 |`

type row struct {
	name                                            string
	kind                                            int
	inLow, inHigh, outLow, outHigh, numLow, numHigh int
	exprs                                           int
}

var table = readTable()

func readTable() []row {
	var all []row
	for _, line := range strings.Split(strings.TrimSpace(chapterTable), "\n") {
		cells := strings.Split(strings.Trim(line, "| "), " | ")
		r := row{name: cells[0]}
		r.kind, _ = ends(cells[1])
		r.inLow, r.inHigh = ends(cells[2])
		r.outLow, r.outHigh = ends(cells[3])
		r.numLow, r.numHigh = ends(cells[4])
		r.exprs, _ = ends(cells[5])
		all = append(all, r)
	}
	return all
}

// ends reads "3" as 3 to 3.
func ends(cell string) (low, high int) {
	first, last, ok := strings.Cut(cell, " to ")
	if !ok {
		last = first
	}
	low, _ = strconv.Atoi(first)
	high, err := strconv.Atoi(last)
	if err != nil {
		panic(err)
	}
	return low, high
}

func rowOf(kind int) (row, bool) {
	for _, r := range table {
		if r.kind == kind {
			return r, true
		}
	}
	return row{}, false
}

func rowNamed(name string) row {
	for _, r := range table {
		if r.name == name {
			return r
		}
	}
	panic("no kind: " + name)
}

var nameForm = regexp.MustCompile(`^[a-z][a-z0-9]{0,7}$`)

// modelBuild goes through the eight points of P7.2.
func modelBuild(p api.Plan) (api.Shape, int, api.Errno) {
	n, m := len(p.Tasks), len(p.Edges)
	if n == 0 || n > 12 || m > 24 || p.Cap < 1 || p.Cap > 8 {
		return api.Shape{}, 0, api.ErrShapeSize
	}
	for k, t := range p.Tasks {
		earlier := slices.IndexFunc(p.Tasks, func(o api.Task) bool { return o.Name == t.Name })
		if !nameForm.MatchString(t.Name) || earlier < k {
			return api.Shape{}, k, api.ErrShapeName
		}
	}
	for k, t := range p.Tasks {
		if r, ok := rowOf(t.Kind); !ok || t.Num < r.numLow || t.Num > r.numHigh {
			return api.Shape{}, k, api.ErrShapeKind
		}
	}
	for k, t := range p.Tasks {
		r, _ := rowOf(t.Kind)
		bad := len(t.Exprs) != r.exprs
		for _, s := range t.Exprs {
			bad = bad || expr.Check(s) != nil
		}
		if bad {
			return api.Shape{}, k, api.ErrShapeExpr
		}
	}
	for k, e := range p.Edges {
		if e.From < 0 || e.From >= n || e.To < 0 || e.To >= n || e.Out < 0 || e.Out > 3 || e.In < 0 || e.In > 3 {
			return api.Shape{}, k, api.ErrShapeEdge
		}
	}
	return modelGraph(p)
}

// modelGraph goes through the points from the sixth on.
func modelGraph(p api.Plan) (api.Shape, int, api.Errno) {
	for k := range p.Tasks {
		if !modelLinked(p, k) {
			return api.Shape{}, k, api.ErrShapePort
		}
	}
	for k, e := range p.Edges {
		toHead := p.Tasks[e.To].Kind == 11 && e.In == 1
		ofTail := p.Tasks[e.From].Kind == 12 && e.Out == 0
		if toHead && !ofTail || ofTail && !toHead {
			return api.Shape{}, k, api.ErrShapePair
		}
	}
	far := distances(p, false)
	for k := range p.Tasks {
		for j := range p.Tasks {
			// A way of one edge from k to j, and one of any number from j to k.
			if far[k][j] == 1 && far[j][k] >= 0 || k == j && selfEdge(p, k) {
				return api.Shape{}, k, api.ErrShapeCycle
			}
		}
	}
	return modelShape(p), 0, api.OK
}

func selfEdge(p api.Plan, task int) bool {
	return slices.ContainsFunc(p.Edges, func(e api.Edge) bool { return e.From == task && e.To == task })
}

// modelLinked counts the edges at each port of a task.
func modelLinked(p api.Plan, task int) bool {
	var ins, outs [4]int
	n, m := 0, 0
	for _, e := range p.Edges {
		if e.To == task {
			ins[e.In]++
			n++
		}
		if e.From == task {
			outs[e.Out]++
			m++
		}
	}
	r, _ := rowOf(p.Tasks[task].Kind)
	if n < r.inLow || n > r.inHigh || m < r.outLow || m > r.outHigh {
		return false
	}
	for k := range n {
		if ins[k] != 1 {
			return false
		}
	}
	for k := range m {
		if outs[k] != 1 {
			return false
		}
	}
	return true
}

func modelBack(p api.Plan, e api.Edge) bool { return e.In == 1 && p.Tasks[e.To].Kind == 11 }

// distances tells from each task to each the edges of the shortest way, -1 where there is none; over the back edges, or not.
func distances(p api.Plan, back bool) [][]int {
	n := len(p.Tasks)
	far := make([][]int, n)
	for k := range far {
		far[k] = slices.Repeat([]int{-1}, n)
	}
	for _, e := range p.Edges {
		if back || !modelBack(p, e) {
			far[e.From][e.To] = 1
		}
	}
	for k := range far {
		far[k][k] = 0
	}
	for mid := range n {
		for a := range n {
			for b := range n {
				if far[a][mid] >= 0 && far[mid][b] >= 0 && (far[a][b] < 0 || far[a][b] > far[a][mid]+far[mid][b]) {
					far[a][b] = far[a][mid] + far[mid][b]
				}
			}
		}
	}
	return far
}

// modelShape says P7.3 of a valid plan.
func modelShape(p api.Plan) api.Shape {
	var s api.Shape
	for k, t := range p.Tasks {
		var ins, outs []int
		for port := range 4 {
			for number, e := range p.Edges {
				if e.To == k && e.In == port {
					ins = append(ins, number)
				}
				if e.From == k && e.Out == port {
					outs = append(outs, number)
				}
			}
		}
		s.Ins, s.Outs = append(s.Ins, ins), append(s.Outs, outs)
		if t.Kind == 1 {
			s.Sources = append(s.Sources, k)
		}
		if t.Kind == 13 {
			s.Sinks = append(s.Sinks, k)
		}
		s.Mate = append(s.Mate, modelMate(p, k))
		s.Depth = append(s.Depth, longest(p, k))
	}
	for _, e := range p.Edges {
		s.Back = append(s.Back, modelBack(p, e))
	}
	s.Order = modelOrder(p)
	return s
}

func modelMate(p api.Plan, task int) int {
	for _, e := range p.Edges {
		if p.Tasks[task].Kind == 11 && e.To == task && e.In == 1 {
			return e.From
		}
		if p.Tasks[task].Kind == 12 && e.From == task && e.Out == 0 {
			return e.To
		}
	}
	return -1
}

// longest tries all ways from a source to a task, backwards.
func longest(p api.Plan, task int) int {
	if p.Tasks[task].Kind == 1 {
		return 0
	}
	most := -100
	for _, e := range p.Edges {
		if e.To == task && !modelBack(p, e) {
			most = max(most, 1+longest(p, e.From))
		}
	}
	return most
}

func modelOrder(p api.Plan) []int {
	var all []int
	for range p.Tasks {
		for k := range p.Tasks {
			waits := slices.ContainsFunc(p.Edges, func(e api.Edge) bool {
				return e.To == k && !modelBack(p, e) && !slices.Contains(all, e.From)
			})
			if !waits && !slices.Contains(all, k) {
				all = append(all, k)
				break
			}
		}
	}
	return all
}

// modelWays says P7.5 and P7.6 of a valid plan and one of its tasks.
func modelWays(p api.Plan, from int) ([]bool, []step) {
	reached := make([]bool, len(p.Tasks))
	var walk []step
	far := distances(p, true)[from]
	for distance := range len(p.Tasks) {
		for k := range p.Tasks {
			if far[k] == distance {
				reached[k] = true
				walk = append(walk, step{k, distance})
			}
		}
	}
	return reached, walk
}
