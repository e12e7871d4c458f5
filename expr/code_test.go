package expr_test

import (
	"sync"
	"testing"

	"eddy/api"
	"eddy/expr"
)

// someExprs are expressions of every kind of node.
func someExprs() []string {
	return []string{
		"1", `"a"`, "none", "key", "val", "acc", "hops", "-val", "not val", "val + acc", "acc + val", "val - acc", "val * 2", "val / acc", "val % acc", "val == acc", "val < acc", "val or acc", "val and acc", "if val then acc else key", "if acc then [val] else [1, 2]",
		"[]", "[1]", "[val]", "[val, val]", "[val, acc, val]", "[[1, 2], [1, 2]]", "[key, hops]", "len(val)", "kind(val)", "int(val)", "text(val)", "sum(val)", "sort(val)", "rev(val)", "at(val, 0)", "at(val, -1)", "take(val, 1)", "take(val, 9)", "take(val, 0)", "drop(val, 1)", "drop(val, 0)", "min(val, acc)", "max(val, acc)", "has(val, acc)", "put(val, 0, acc)", "put(val, 1, acc)", "put(val, -1, val)", "put([], 0, val)",
		"take(val, 1) + take(val, 1)", "rev(rev(val))", "[val] + [val]", "[take(val, 1), drop(val, 1)]", "put(take(val, 1), 1, val)", "take(acc, 1) + [1]", "[at(val, 0), at(val, 0)]", "key + key", "take(key, 1)",
	}
}

// compiled gives the code of an expression.
func compiled(t *testing.T, s string) *expr.Code {
	t.Helper()
	code, err := expr.Compile(s)
	if err != nil || code == nil {
		t.Fatalf("P3.13: Compile(%q) answers %v", s, err)
	}
	return code
}

func TestCodesAreRunAgainAndAgain(t *testing.T) {
	var codes []*expr.Code
	for _, s := range someExprs() {
		codes = append(codes, compiled(t, s), compiled(t, s))
	}
	c := chanceFrom(7)
	for range 20000 {
		k := c.Intn(len(codes))
		s := someExprs()[k/2]
		r, acc := c.scope()
		want := treeOf(s).worth(r, acc)
		if got := codes[k].Run(r, acc); !same(got, want) {
			t.Fatalf("P3.13: Run of %q, with %+v, %+v, answers %+v, want %+v", s, r, acc, got, want)
		}
	}
}

func TestCodesAreRunBesideOneAnother(t *testing.T) {
	var workers sync.WaitGroup
	for _, s := range someExprs() {
		code, tree := compiled(t, s), treeOf(s)
		for seed := range int64(4) {
			workers.Go(func() {
				c := chanceFrom(seed)
				for range 100 {
					r, acc := c.scope()
					if got, want := code.Run(r, acc), tree.worth(r, acc); !same(got, want) {
						t.Errorf("P3.13: Run of %q, beside others, with %+v, %+v, answers %+v, want %+v", s, r, acc, got, want)
					}
				}
			})
		}
	}
	workers.Wait()
}

func TestCodesTellTheirText(t *testing.T) {
	for _, s := range someExprs() {
		canon, err := expr.Canon(s)
		code := compiled(t, s)
		for range 2 {
			if err != nil || code.Text() != canon {
				t.Errorf("P3.13: the code of %q tells the text %q, want %q", s, code.Text(), canon)
			}
			code.Run(api.Record{Val: list(num(1))}, num(2))
		}
	}
}

func TestACodeThatWasNotCompiledIsNone(t *testing.T) {
	var code expr.Code
	if v := code.Run(api.Record{Key: "a", Val: num(1)}, num(1)); !same(v, none) || code.Text() != "" {
		t.Errorf("P3.14: an empty code answers %+v and %q", v, code.Text())
	}
}
