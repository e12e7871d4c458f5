package expr_test

import (
	"errors"
	"math"
	"strings"
	"testing"

	"eddy/api"
	"eddy/expr"
)

var none api.Value

func num(n int64) api.Value             { return api.Value{Kind: api.Int, Int: n} }
func text(s string) api.Value           { return api.Value{Kind: api.Text, Text: s} }
func list(items ...api.Value) api.Value { return api.Value{Kind: api.List, Items: items} }

// long gives a text of n bytes.
func long(n int) string { return strings.Repeat("a", n) }

// times gives n values v.
func times(n int, v api.Value) []api.Value {
	var l []api.Value
	for range n {
		l = append(l, v)
	}
	return l
}

// nested gives the empty list with as many lists around it as its depth.
func nested(depth int) api.Value {
	v := list()
	for range depth {
		v = list(v)
	}
	return v
}

// same tells whether two values are the same field by field, nil and empty being the same.
func same(a, b api.Value) bool {
	if a.Kind != b.Kind || a.Int != b.Int || a.Text != b.Text || len(a.Items) != len(b.Items) {
		return false
	}
	for k := range a.Items {
		if !same(a.Items[k], b.Items[k]) {
			return false
		}
	}
	return true
}

// edgeInts are the ints at which a number of 64 bits may wrap round, and some between.
func edgeInts() []int64 {
	ints := []int64{math.MinInt64, math.MinInt64 + 1, math.MinInt64 + 2, math.MaxInt64, math.MaxInt64 - 1, math.MaxInt64 - 2, 0, 1, -1, 2, -2, 3, -3, 7, -7, 10, -10}
	for _, shift := range []int{31, 32, 61, 62} {
		edge := int64(1) << shift
		ints = append(ints, edge-1, edge, edge+1, -edge+1, -edge, -edge-1)
	}
	return append(ints, 3037000499, 3037000500, -3037000499, -3037000500)
}

// someValues are valid values of every kind and at the limits; no two are the same.
func someValues() []api.Value {
	return []api.Value{
		none, num(0), num(1), num(-1), num(2), num(-3), num(6), num(math.MinInt64), num(math.MaxInt64),
		text(""), text("0"), text("1"), text("-12"), text("a"), text("ab"), text("\x00"), text("\xff"), text("\u00e9"), text(long(23)), text(long(24)),
		list(), list(none), list(num(0)), list(num(1)), list(num(2), num(1)), list(text("a"), num(-1), none), list(list(), list(num(1))), list(list(num(1)), num(2), text("b")),
		nested(1), nested(2), list(times(5, num(3))...), list(times(6, none)...), list(num(math.MaxInt64), num(1), num(-1)),
		list(list(times(6, none)...), list(times(3, num(1))...)),
	}
}

// faultyValues are values that aren't valid, each by one fault.
func faultyValues() []api.Value {
	return []api.Value{
		{Kind: -1}, {Kind: 4}, {Kind: api.None, Int: 1}, {Kind: api.None, Text: "a"}, {Kind: api.None, Items: []api.Value{none}},
		{Kind: api.Int, Int: 1, Text: "a"}, {Kind: api.Text, Text: "a", Int: 1}, {Kind: api.List, Int: 1, Items: []api.Value{none}},
		text(long(25)), list(times(7, none)...), nested(3), list(num(1), api.Value{Kind: 9}), list(text(long(25))),
		list(list(times(6, none)...), list(times(4, num(1))...)),
	}
}

// placeOf gives what a fault tells; it tells nothing of an error that is no fault.
func placeOf(err error) (at int, e api.Errno) {
	f, ok := err.(*api.Fault)
	if !ok || f == nil || f.Line != 0 {
		return -1, -1
	}
	e, ok = f.Err.(api.Errno)
	if !ok {
		return -1, -1
	}
	return f.At, e
}

// wantFault tells where Check, Canon, Eval or Compile answer another fault than this one.
func wantFault(t *testing.T, promise, s string, at int, e api.Errno) {
	t.Helper()
	r := api.Record{Key: "k", Val: num(1), Loops: []int{1}}
	canon, canonErr := expr.Canon(s)
	v, evalErr := expr.Eval(s, r, num(2))
	code, codeErr := expr.Compile(s)
	for name, err := range map[string]error{"Check": expr.Check(s), "Canon": canonErr, "Eval": evalErr, "Compile": codeErr} {
		gotAt, got := placeOf(err)
		if gotAt != at || got != e {
			t.Errorf("%s: %s(%q) answers %v, want error %d at %d", promise, name, s, err, int(e), at)
		}
	}
	if canon != "" || !same(v, none) || v.Items != nil || code != nil {
		t.Errorf("P3.4: %q has a fault, and still Canon, Eval or Compile give %q, %v, %v", s, canon, v, code)
	}
}

// wantNoFault tells where Check, Canon, Eval or Compile refuse a text that is an expression.
func wantNoFault(t *testing.T, promise, s string) {
	t.Helper()
	_, canonErr := expr.Canon(s)
	_, evalErr := expr.Eval(s, api.Record{}, none)
	code, codeErr := expr.Compile(s)
	for name, err := range map[string]error{"Check": expr.Check(s), "Canon": canonErr, "Eval": evalErr, "Compile": codeErr} {
		if err != nil {
			t.Errorf("%s: %s(%q) answers %v, want nil", promise, name, s, err)
		}
	}
	if code == nil {
		t.Errorf("%s: Compile(%q) gives no code", promise, s)
	}
}

// wantValue tells where Eval, or a code that is run, answers another value.
func wantValue(t *testing.T, promise, s string, r api.Record, acc, want api.Value) {
	t.Helper()
	v, err := expr.Eval(s, r, acc)
	if err != nil || !same(v, want) {
		t.Errorf("%s: Eval(%q, %+v, %+v) answers %+v, %v, want %+v", promise, s, r, acc, v, err, want)
	}
	code, err := expr.Compile(s)
	if err != nil || code == nil {
		t.Errorf("%s: Compile(%q) answers %v", promise, s, err)
		return
	}
	if v := code.Run(r, acc); !same(v, want) {
		t.Errorf("P3.13: Run of %q, with %+v, %+v, answers %+v, want %+v", s, r, acc, v, want)
	}
}

// wantCanon tells where Canon, or the text of a code, is another one.
func wantCanon(t *testing.T, promise, s, want string) {
	t.Helper()
	got, err := expr.Canon(s)
	if err != nil || got != want {
		t.Errorf("%s: Canon(%q) answers %q, %v, want %q", promise, s, got, err, want)
	}
	code, err := expr.Compile(s)
	if err != nil || code == nil {
		t.Errorf("%s: Compile(%q) answers %v", promise, s, err)
		return
	}
	if code.Text() != want {
		t.Errorf("P3.13: the code of %q tells the text %q, want %q", s, code.Text(), want)
	}
}

func TestNumbersAreTheChapters(t *testing.T) {
	got := []int{
		int(api.ErrExprLong), int(api.ErrExprByte), int(api.ErrExprNumber), int(api.ErrExprText), int(api.ErrExprName), int(api.ErrExprDeep), int(api.ErrExprToken),
		api.MaxExpr, api.MaxDeep, api.MaxItems, api.MaxText, api.MaxKey, api.MaxLoops, api.MaxNodes,
	}
	for k, want := range []int{30, 31, 32, 33, 34, 35, 36, 100, 10, 6, 24, 12, 3, 12} {
		if got[k] != want {
			t.Errorf("number %d is %d, want %d", k, got[k], want)
		}
	}
}

func TestFaultsAreAskedAsErrors(t *testing.T) {
	err := expr.Check("1 +")
	var f *api.Fault
	if !errors.As(err, &f) || f.At != 3 || !errors.Is(err, api.ErrExprToken) || errors.Is(err, api.ErrExprByte) {
		t.Errorf("the face: Check(%q) answers %v, want a *api.Fault at 3 that wraps error 36", "1 +", err)
	}
	_, canonErr := expr.Canon("1")
	_, evalErr := expr.Eval("1", api.Record{}, none)
	_, codeErr := expr.Compile("1")
	if expr.Check("1") != nil || canonErr != nil || evalErr != nil || codeErr != nil {
		t.Error("P3.4: of a text without a fault an error is answered that isn't nil")
	}
}
