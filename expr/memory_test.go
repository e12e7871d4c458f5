package expr_test

import (
	"strings"
	"testing"
	"unsafe"

	"eddy/api"
	"eddy/expr"
)

// roomy gives v with lists that have spare room behind them, filled with a value of its own.
func roomy(v api.Value) api.Value {
	if v.Kind != api.List {
		return v
	}
	items := make([]api.Value, len(v.Items)+3)
	for k := range items {
		items[k] = text("spare")
	}
	for k, item := range v.Items {
		items[k] = roomy(item)
	}
	v.Items = items[:len(v.Items)]
	return v
}

// untouched tells whether v is still want, and its spare rooms still hold what roomy laid there.
func untouched(v, want api.Value) bool {
	if v.Kind != want.Kind || v.Int != want.Int || v.Text != want.Text || len(v.Items) != len(want.Items) {
		return false
	}
	if v.Kind != api.List {
		return true
	}
	for _, spare := range v.Items[len(v.Items):cap(v.Items)] {
		if !same(spare, text("spare")) {
			return false
		}
	}
	for k := range v.Items {
		if !untouched(v.Items[k], want.Items[k]) {
			return false
		}
	}
	return true
}

// scribble writes into all lists of v and into their spare room.
func scribble(v api.Value) {
	for _, item := range v.Items {
		scribble(item)
	}
	all := v.Items[:cap(v.Items)]
	for k := range all {
		all[k] = text("scribbled")
	}
}

// argument pairs of values that take every way of the calls.
func arguments() [][2]api.Value {
	lists := []api.Value{list(), list(num(2), num(1)), list(list(num(1)), none, list()), list(times(6, num(3))...), list(list(list(num(1))), num(1))}
	var all [][2]api.Value
	for _, a := range append(lists, text("ab"), num(1), none, list(times(7, none)...)) {
		for _, b := range append(lists, text("c"), num(0)) {
			all = append(all, [2]api.Value{a, b})
		}
	}
	return all
}

func TestArgumentsStayAsTheyAre(t *testing.T) {
	for _, s := range someExprs() {
		code := compiled(t, s)
		for _, pair := range arguments() {
			val, acc := roomy(pair[0]), roomy(pair[1])
			loops := []int{3, 2, 1, 77, 78}
			r := api.Record{Key: "k", Val: val, Loops: loops[:2]}
			v, _ := expr.Eval(s, r, acc)
			w := code.Run(r, acc)
			expr.True(val)
			scribble(v)
			scribble(w)
			if !untouched(val, pair[0]) || !untouched(acc, pair[1]) {
				t.Errorf("P3.14: %q changes %+v or %+v, or its answer shares memory with them", s, pair[0], pair[1])
			}
			for k, want := range []int{3, 2, 1, 77, 78} {
				if loops[k] != want {
					t.Errorf("P3.14: %q changes the loop counters to %v", s, loops)
				}
			}
		}
	}
}

func TestArgumentsAreNotKept(t *testing.T) {
	for _, s := range someExprs() {
		code, tree := compiled(t, s), treeOf(s)
		for _, pair := range arguments() {
			val, acc, loops := roomy(pair[0]), roomy(pair[1]), []int{3, 2}
			want := tree.worth(api.Record{Key: "k", Val: pair[0], Loops: []int{3, 2}}, pair[1])
			v, _ := expr.Eval(s, api.Record{Key: "k", Val: val, Loops: loops}, acc)
			w := code.Run(api.Record{Key: "k", Val: val, Loops: loops}, acc)
			scribble(val)
			scribble(acc)
			loops[1] = 9
			if !same(v, want) || !same(w, want) {
				t.Errorf("P3.14: the answer of %q, for %+v and %+v, is written over with them: %+v, %+v", s, pair[0], pair[1], v, w)
			}
		}
	}
}

func TestTwoAnswersShareNothing(t *testing.T) {
	for _, s := range someExprs() {
		code := compiled(t, s)
		for _, pair := range arguments() {
			r := api.Record{Key: "k", Val: pair[0], Loops: []int{3, 2}}
			want := treeOf(s).worth(r, pair[1])
			first, second := code.Run(r, pair[1]), code.Run(r, pair[1])
			third, _ := expr.Eval(s, r, pair[1])
			scribble(first)
			if !same(second, want) || !same(third, want) || !same(code.Run(r, pair[1]), want) {
				t.Errorf("P3.14: two answers of %q, for %+v and %+v, share memory, or one shares it with the code", s, pair[0], pair[1])
			}
			for _, l := range lists(second) {
				for _, spare := range l[len(l):cap(l)] {
					if spare.Text == "scribbled" {
						t.Errorf("P3.14: two answers of %q share spare room", s)
					}
				}
			}
		}
	}
}

// lists gives the lists of v, from the left.
func lists(v api.Value) [][]api.Value {
	all := [][]api.Value{v.Items}
	for _, item := range v.Items {
		all = append(all, lists(item)...)
	}
	return all
}

// meet tells whether two lists, their spare rooms in, have a place in common.
func meet(a, b []api.Value) bool {
	a, b = a[:cap(a)], b[:cap(b)]
	for k := range a {
		for l := range b {
			if &a[k] == &b[l] {
				return true
			}
		}
	}
	return false
}

func TestListsOfOneAnswerShareNothing(t *testing.T) {
	for _, s := range someExprs() {
		for _, pair := range arguments() {
			v, _ := expr.Eval(s, api.Record{Key: "k", Val: roomy(pair[0]), Loops: []int{3, 2}}, roomy(pair[1]))
			all := lists(v)
			for k := range all {
				for _, l := range all[:k] {
					if meet(all[k], l) {
						t.Errorf("P3.14: two lists of the answer of %q, for %+v and %+v, share memory", s, pair[0], pair[1])
					}
				}
			}
		}
	}
}

// lent gives the text of bytes that are written over afterwards.
func lent(b []byte) string { return unsafe.String(unsafe.SliceData(b), len(b)) }

func TestTextsAreNotKept(t *testing.T) {
	for _, s := range []string{`"lent" + key`, `key`, `val`, `[acc, "lent"]`, `at([key, val], 0)`, `if key == "k" then val else acc`, `take(val, 9)`, `rev(rev(val))`, `"lent"`, `text(val)`} {
		source, key, val := []byte(s), []byte("k"), []byte("v")
		r := api.Record{Key: lent(key), Val: text(lent(val))}
		want := treeOf(s).worth(api.Record{Key: "k", Val: text("v")}, text("v"))
		canon, _ := expr.Canon(s)
		gotCanon, _ := expr.Canon(lent(source))
		code, err := expr.Compile(lent(source))
		if err != nil {
			t.Fatalf("P3.4: Compile(%q) answers %v", s, err)
		}
		evaled, _ := expr.Eval(lent(source), r, text(lent(val)))
		ran := code.Run(r, text(lent(val)))
		for _, b := range [][]byte{source, key, val} {
			copy(b, strings.Repeat("#", len(b)))
		}
		if !same(evaled, want) || !same(ran, want) || gotCanon != canon || code.Text() != canon {
			t.Errorf("P3.14: %q is kept: %+v, %+v, %q, %q", s, evaled, ran, gotCanon, code.Text())
		}
		if again := code.Run(api.Record{Key: "k", Val: text("v")}, text("v")); !same(again, want) {
			t.Errorf("P3.14: the code of %q keeps its text: it answers %+v", s, again)
		}
	}
}

func TestFaultsOfTwoCallsShareNothing(t *testing.T) {
	first, second := expr.Check("1 +"), expr.Check("1 +")
	f, ok := first.(*api.Fault)
	if !ok {
		t.Fatalf("P3.4: Check answers %v", first)
	}
	*f = api.Fault{Line: 9, At: 9, Err: api.ErrExprByte}
	if at, e := placeOf(second); at != 3 || e != api.ErrExprToken {
		t.Errorf("P3.14: two faults share memory: %v", second)
	}
	if at, e := placeOf(expr.Check("1 +")); at != 3 || e != api.ErrExprToken {
		t.Error("P3.14: a fault that was written over is told again")
	}
}

func TestValuesFarBeyondTheLimits(t *testing.T) {
	wide := list(times(1<<16, num(1))...)
	deep := none
	for range 1 << 15 {
		deep = list(deep)
	}
	for _, v := range []api.Value{wide, deep, text(long(1 << 20)), list(wide, deep)} {
		for _, s := range someExprs() {
			r, acc := api.Record{Key: long(1 << 16), Val: v, Loops: make([]int, 1<<12)}, v
			want := treeOf(s).worth(api.Record{Key: long(13)}, none)
			if got, err := expr.Eval(s, r, acc); err != nil || !same(got, want) {
				t.Errorf("P3.7: Eval(%q), of values far beyond the limits, answers %+v, %v, want %+v", s, got, err, want)
			}
		}
		if expr.True(v) {
			t.Error("P3.8: a value far beyond the limits is true")
		}
	}
}
