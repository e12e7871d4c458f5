package stage_test

import (
	"fmt"
	"reflect"
	"slices"
	"strconv"
	"strings"
	"testing"

	"eddy/api"
	"eddy/pen"
	"eddy/stage"
	"eddy/value"
)

var none api.Value

func num(n int64) api.Value             { return api.Value{Kind: api.Int, Int: n} }
func text(s string) api.Value           { return api.Value{Kind: api.Text, Text: s} }
func list(items ...api.Value) api.Value { return api.Value{Kind: api.List, Items: items} }

// Values, records and states that are written by hand are read by the pen's readers.
var (
	val    = pen.ReadValue
	number = pen.ReadNumber
	rec    = pen.ReadRecord
	state  = pen.ReadState
)

// sends reads what goes out: `0 a=1 | 2 b=none@4`; the empty text is nothing.
func sends(s string) []api.Send {
	var all []api.Send
	for _, one := range strings.Split(s, " | ") {
		if out, r, ok := strings.Cut(one, " "); ok {
			all = append(all, api.Send{Out: number(out), Rec: rec(r)})
		}
	}
	return all
}

// tell writes a state, a record or what goes out as it is read here; what can't be read so is written whole.
func tell(thing any) string {
	switch x := thing.(type) {
	case api.Record:
		if value.CheckRecord(x) != api.OK {
			break
		}
		s := x.Key + "=" + value.Print(x.Val)
		for _, n := range x.Loops {
			s += "@" + strconv.Itoa(n)
		}
		return "`" + s + "`"
	case api.State:
		if value.CheckState(x) != api.OK {
			break
		}
		s := strconv.Itoa(x.Num)
		for _, c := range x.Cells {
			s += "; " + c.Key + ":"
			for _, v := range c.Vals {
				s += " " + value.Print(v)
			}
		}
		return "`" + s + "`"
	case []api.Send:
		s := "["
		for _, one := range x {
			s += strconv.Itoa(one.Out) + " " + tell(one.Rec) + " "
		}
		return s + "]"
	}
	return shown(thing)
}

// shown writes a thing so that a nil list and an empty one look the same, and unlike things don't.
func shown(thing any) string {
	return strings.NewReplacer("(nil)", "{}", "api.", "").Replace(fmt.Sprintf("%#v", thing))
}

func same(a, b any) bool { return reflect.DeepEqual(a, b) || shown(a) == shown(b) }

func task(kind, number int, exprs ...string) api.Task {
	return api.Task{Name: "x", Kind: kind, Num: number, Exprs: exprs}
}

// A row is what P7.1's table says of a kind.
type row struct {
	kind                           int
	inLow, inHigh, outLow, outHigh int
	numLow, numHigh, exprs         int
}

func rows() []row {
	return []row{
		{api.Source, 0, 0, 1, 1, 0, 3, 0},
		{api.Map, 1, 1, 1, 1, 0, 0, 2},
		{api.Filter, 1, 1, 1, 1, 0, 0, 1},
		{api.Fold, 1, 1, 1, 1, 0, 0, 2},
		{api.Union, 1, 4, 1, 1, 0, 0, 0},
		{api.Split, 1, 1, 1, 4, 0, 0, 1},
		{api.Tee, 1, 1, 1, 4, 0, 0, 0},
		{api.Join, 2, 2, 1, 1, 0, 0, 0},
		{api.Window, 1, 1, 1, 1, 1, 6, 0},
		{api.Dedup, 1, 1, 1, 1, 0, 0, 0},
		{api.Head, 2, 2, 1, 1, 0, 0, 0},
		{api.Tail, 1, 1, 2, 2, 0, 9, 1},
		{api.Sink, 1, 1, 0, 0, 0, 0, 0},
	}
}

// A tried stage is one that a test asks, with what it was made of.
type tried struct {
	*stage.Stage
	task      api.Task
	ins, outs int
}

func (g tried) String() string {
	return fmt.Sprintf("kind %d, Num %d, %q, %d in, %d out", g.task.Kind, g.task.Num, g.task.Exprs, g.ins, g.outs)
}

func made(t *testing.T, k api.Task, ins, outs int) tried {
	t.Helper()
	g, e := stage.New(k, ins, outs)
	if g == nil || e != api.OK {
		t.Fatalf("P8.1: New(%+v, %d, %d) answers %v, error %d", k, ins, outs, g, e)
	}
	return tried{g, k, ins, outs}
}

// of makes the stage of a task with as few ports as its kind may have.
func of(t *testing.T, kind, number int, exprs ...string) tried {
	t.Helper()
	r := rows()[kind-1]
	return made(t, task(kind, number, exprs...), r.inLow, r.outLow)
}

// everyKind gives stages of all kinds, of those with a range of numbers or ports at both ends of it.
func everyKind(t *testing.T) []tried {
	t.Helper()
	var all []tried
	for _, r := range rows() {
		exprs := slices.Repeat([]string{"val"}, r.exprs)
		all = append(all, made(t, task(r.kind, r.numLow, exprs...), r.inLow, r.outLow))
		if r.numHigh > r.numLow || r.inHigh > r.inLow || r.outHigh > r.outLow {
			all = append(all, made(t, task(r.kind, r.numHigh, exprs...), r.inHigh, r.outHigh))
		}
	}
	return all
}

// A keeping is a stage that keeps cells, with the values that a cell of it may have.
type keeping struct {
	tried
	vals []api.Value
}

func keepings(t *testing.T) []keeping {
	t.Helper()
	return []keeping{
		{of(t, api.Fold, 0, "0", "acc+val"), []api.Value{num(4)}},
		{of(t, api.Join, 0), []api.Value{num(2), num(4)}},
		{of(t, api.Window, 2), []api.Value{num(4)}},
		{of(t, api.Window, 3), []api.Value{num(4)}},
		{of(t, api.Dedup, 0), nil},
	}
}

// picks gives the number of ports at which it can be stepped.
func (g tried) picks() int { return max(g.ins, 1) }

// wants fails the test where a step answers another state or sends other records.
func (g tried) wants(t *testing.T, promise string, s api.State, port int, r api.Record, want api.State, out []api.Send) {
	t.Helper()
	gotS, gotOut, e := g.Step(s, port, r)
	if e != api.OK || !same(gotS, want) || !same(gotOut, out) {
		t.Errorf("%s: %v: Step(%s, %d, %s) answers %s, %s, error %d, want %s, %s", promise, g, tell(s), port, tell(r), tell(gotS), tell(gotOut), e, tell(want), tell(out))
	}
}

// refuses fails the test where a step answers another error, or anything beside it.
func (g tried) refuses(t *testing.T, promise string, s api.State, port int, r api.Record, want api.Errno) {
	t.Helper()
	gotS, gotOut, e := g.Step(s, port, r)
	if e != want {
		t.Errorf("%s: %v: Step(%s, %d, %s) answers error %d, want %d", promise, g, tell(s), port, tell(r), e, want)
	}
	if gotS.Num != 0 || len(gotS.Cells) != 0 || len(gotOut) != 0 {
		t.Errorf("P8.4: %v: Step(%s, %d, %s) answers %s, %s beside error %d", g, tell(s), port, tell(r), tell(gotS), tell(gotOut), e)
	}
}

// A move is one step of a run: the port and the record, and what is to stand and to go out behind it.
type move struct {
	port       int
	in         string
	state, out string
}

// runs steps from a state on.
func (g tried) runs(t *testing.T, promise, from string, moves ...move) {
	t.Helper()
	s := state(from)
	for _, m := range moves {
		g.wants(t, promise, s, m.port, rec(m.in), state(m.state), sends(m.out))
		s, _, _ = g.Step(s, m.port, rec(m.in))
	}
}

// cells gives n cells with these values, their keys k00, k01 and so on.
func cells(n int, vals ...api.Value) []api.Cell {
	var all []api.Cell
	for k := range n {
		all = append(all, api.Cell{Key: fmt.Sprintf("k%02d", k), Vals: vals})
	}
	return all
}

func TestNumbersAreTheChapters(t *testing.T) {
	got := []int{
		int(api.ErrStageKind), int(api.ErrStagePorts), int(api.ErrStageNum), int(api.ErrStageExpr), int(api.ErrStageState), int(api.ErrStagePort), int(api.ErrStageFull),
		api.MaxKey, api.MaxLoops, api.MaxCells, api.MaxNum, api.MaxItems, api.MaxNodes, api.MaxDepth, api.MaxHops,
	}
	for k, want := range []int{80, 81, 82, 83, 84, 85, 86, 12, 3, 64, 1 << 30, 6, 12, 3, 9} {
		if got[k] != want {
			t.Errorf("number %d is %d, want %d", k, got[k], want)
		}
	}
}
