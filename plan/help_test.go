package plan_test

import (
	"errors"
	"fmt"
	"reflect"
	"strings"
	"testing"

	"eddy/api"
	"eddy/plan"
)

// A told fault is what an *api.Fault tells: all zeros, where there is none.
type told struct {
	Line, At int
	Err      api.Errno
}

// A tongue is one of the three kinds of texts, its things told as any.
type tongue struct {
	name  string
	most  int
	parse func(text string) (any, error)
	model func(text string) (any, told)
	zero  any
}

func plans() tongue {
	return tongue{"Plan", 3000, func(s string) (any, error) { return plan.ParsePlan(s) }, func(s string) (any, told) { return modelPlan(s) }, api.Plan{}}
}

func tapes() tongue {
	return tongue{"Tape", 4000, func(s string) (any, error) { return plan.ParseTape(s) }, func(s string) (any, told) { return modelTape(s) }, []api.Record(nil)}
}

func scripts() tongue {
	return tongue{"Script", 8000, func(s string) (any, error) { return plan.ParseScript(s) }, func(s string) (any, told) { return modelScript(s) }, []api.Op(nil)}
}

func tongues() []tongue { return []tongue{plans(), tapes(), scripts()} }

// written calls the Print of a thing.
func written(thing any) (string, error) {
	switch x := thing.(type) {
	case api.Plan:
		return plan.PrintPlan(x)
	case []api.Record:
		return plan.PrintTape(x)
	case []api.Op:
		return plan.PrintScript(x)
	}
	panic("a thing that no call writes")
}

// shown writes a thing so that a nil list and an empty one look the same, and unlike things don't.
func shown(thing any) string { return strings.ReplaceAll(fmt.Sprintf("%#v", thing), "(nil)", "{}") }

func same(a, b any) bool { return reflect.DeepEqual(a, b) || shown(a) == shown(b) }

// toldBy takes a fault apart; an error that is no *api.Fault around an api.Errno tells what no fault does.
func toldBy(err error) told {
	if err == nil {
		return told{}
	}
	f, ok := err.(*api.Fault)
	if !ok || f == nil {
		return told{-1, -1, -1}
	}
	e, ok := f.Err.(api.Errno)
	if !ok || e == api.OK {
		return told{-2, -2, -2}
	}
	return told{f.Line, f.At, e}
}

func short(s string) string {
	if len(s) > 300 {
		return fmt.Sprintf("%q .. (%d bytes)", s[:300], len(s))
	}
	return fmt.Sprintf("%q", s)
}

// wantFault tells where a Parse call, or the model, answers another fault, or something beside it.
func (g tongue) wantFault(t *testing.T, promise, text string, line, at int, e api.Errno) {
	t.Helper()
	want := told{line, at, e}
	thing, err := g.parse(text)
	if got := toldBy(err); got != want {
		t.Errorf("%s: Parse%s(%s) answers %+v (%v), want %+v", promise, g.name, short(text), got, err, want)
	}
	if !same(thing, g.zero) {
		t.Errorf("%s: Parse%s(%s) answers %s beside a fault", promise, g.name, short(text), shown(thing))
	}
	if _, got := g.model(text); got != want {
		t.Errorf("the model answers %+v of %s, want %+v", got, short(text), want)
	}
	wantAsked(t, promise, err, want)
}

// wantAsked asks an error for its place and for every reason.
func wantAsked(t *testing.T, promise string, err error, want told) {
	t.Helper()
	var f *api.Fault
	if !errors.As(err, &f) || f.Line != want.Line || f.At != want.At {
		t.Errorf("%s: errors.As finds another place in %v than %+v", promise, err, want)
	}
	for e := api.Errno(0); e < 240; e++ {
		if errors.Is(err, e) != (e == want.Err) {
			t.Errorf("%s: errors.Is of %v and error %d is %v", promise, err, int(e), e != want.Err)
		}
	}
}

// wantThing tells where a Parse call, or the model, answers another thing.
func (g tongue) wantThing(t *testing.T, promise, text string, want any) {
	t.Helper()
	got, err := g.parse(text)
	if err != nil || !same(got, want) {
		t.Errorf("%s: Parse%s(%s) answers %s, %v, want %s", promise, g.name, short(text), shown(got), err, shown(want))
	}
	if got, f := g.model(text); f != (told{}) || !same(got, want) {
		t.Errorf("the model answers %s, %+v of %s, want %s", shown(got), f, short(text), shown(want))
	}
}

// wantTaken tells where a Parse call finds a fault in a text that has none.
func (g tongue) wantTaken(t *testing.T, promise, text string) any {
	t.Helper()
	thing, err := g.parse(text)
	if err != nil {
		t.Errorf("%s: Parse%s(%s) answers %v, want no fault", promise, g.name, short(text), err)
	}
	return thing
}

// wantText tells where a Print call answers another text, and where that text isn't read back as the thing, or as back, if that isn't nil.
func (g tongue) wantText(t *testing.T, promise string, thing any, want string, back any) {
	t.Helper()
	got, err := written(thing)
	if err != nil || got != want {
		t.Errorf("%s: Print%s(%s) answers %q, %v, want %q", promise, g.name, shown(thing), got, err, want)
	}
	if back == nil {
		back = thing
	}
	if got := g.wantTaken(t, promise, want); !same(got, back) {
		t.Errorf("%s: Parse%s(%s) answers %s, want %s", promise, g.name, short(want), shown(got), shown(back))
	}
}

// wantUnwritten tells where a Print call writes what cannot be written.
func (g tongue) wantUnwritten(t *testing.T, promise, why string, thing any) {
	t.Helper()
	got, err := written(thing)
	want := told{0, 0, api.ErrPlanPrint}
	if got != "" || toldBy(err) != want {
		t.Errorf("%s: Print%s, of %s, answers %s, %v, want the fault %+v", promise, g.name, why, short(got), err, want)
	}
	wantAsked(t, promise, err, want)
}

func lines(l ...string) string { return strings.Join(l, "\n") }

// filled gives a text of n bytes: begin, and a last line that is passed over.
func filled(begin string, n int) string {
	return begin + "\n#" + strings.Repeat("x", n-len(begin)-2)
}

func num(n int64) api.Value             { return api.Value{Kind: api.Int, Int: n} }
func text(s string) api.Value           { return api.Value{Kind: api.Text, Text: s} }
func list(items ...api.Value) api.Value { return api.Value{Kind: api.List, Items: items} }

func TestNumbersAreTheChapters(t *testing.T) {
	got := []int{
		int(api.ErrPlanLong), int(api.ErrPlanWord), int(api.ErrPlanNumber), int(api.ErrPlanName), int(api.ErrPlanTwice), int(api.ErrPlanMany), int(api.ErrPlanEnd), int(api.ErrPlanValue), int(api.ErrPlanPrint),
		api.MaxPlanText, api.MaxTapeText, api.MaxScriptText, api.MaxName, api.MaxTasks, api.MaxEdges, api.MaxTape, api.MaxKey, api.MaxScript, api.MaxExpr,
	}
	for k, want := range []int{60, 61, 62, 63, 64, 65, 66, 67, 68, 3000, 4000, 8000, 8, 12, 24, 64, 12, 2000, 100} {
		if got[k] != want {
			t.Errorf("number %d is %d, want %d", k, got[k], want)
		}
	}
}
