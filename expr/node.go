package expr

import (
	"eddy/api"
	"eddy/value"
)

// node is a part of an expression's tree.
type node interface {
	// compile turns the node into a work that no longer needs the tree.
	compile() work
}

// work gives the value of an expression: always a valid one, whatever it is worked out for.
type work func(s *scope) api.Value

// scope is what an expression is worked out for.
type scope struct {
	rec api.Record
	acc api.Value
}

type (
	// constant is a number, a text or none.
	constant struct{ val api.Value }
	// given is a word for something of the scope.
	given struct{ name string }
	// prefixed is a sign or a word ahead of one side.
	prefixed struct {
		level int
		name  string
		side  node
	}
	// joined is a sign or a word between two sides.
	joined struct {
		level       int
		name        string
		left, right node
	}
	choice  struct{ test, yes, no node }
	listing struct{ items []node }
	called  struct {
		call  call
		sides []node
	}
)

func (n constant) compile() work {
	return func(*scope) api.Value { return n.val }
}

func (n given) compile() work {
	switch n.name {
	case "key":
		return (*scope).key
	case "val":
		return (*scope).val
	case "acc":
		return (*scope).accumulated
	}
	return (*scope).hops
}

func (n prefixed) compile() work {
	do, side := negated, n.side.compile()
	if n.name == "not" {
		do = denied
	}
	return func(s *scope) api.Value { return do(side(s)) }
}

func (n joined) compile() work {
	do, left, right := joining(n.name), n.left.compile(), n.right.compile()
	return func(s *scope) api.Value { return do(left(s), right(s)) }
}

func (n choice) compile() work {
	test, yes, no := n.test.compile(), n.yes.compile(), n.no.compile()
	return func(s *scope) api.Value {
		if True(test(s)) {
			return yes(s)
		}
		return no(s)
	}
}

func (n listing) compile() work {
	items := compileAll(n.items)
	return func(s *scope) api.Value { return listOf(workAll(items, s)) }
}

func (n called) compile() work {
	do, sides := n.call.do, compileAll(n.sides)
	return func(s *scope) api.Value { return do(workAll(sides, s)) }
}

func compileAll(nodes []node) []work {
	var works []work
	for _, n := range nodes {
		works = append(works, n.compile())
	}
	return works
}

func workAll(works []work, s *scope) []api.Value {
	var vals []api.Value
	for _, w := range works {
		vals = append(vals, w(s))
	}
	return vals
}

func (s *scope) key() api.Value {
	if len(s.rec.Key) > api.MaxKey {
		return api.Value{}
	}
	return textOf(s.rec.Key)
}

func (s *scope) val() api.Value { return orNone(s.rec.Val) }

func (s *scope) accumulated() api.Value { return orNone(s.acc) }

func (s *scope) hops() api.Value {
	n := len(s.rec.Loops)
	if n == 0 || n > api.MaxLoops {
		return api.Value{}
	}
	return intOf(int64(s.rec.Loops[n-1]))
}

// orNone gives v, or none in its place if it isn't valid.
func orNone(v api.Value) api.Value {
	if value.Check(v) != api.OK {
		return api.Value{}
	}
	return v
}

func intOf(n int64) api.Value { return api.Value{Kind: api.Int, Int: n} }

func truth(b bool) api.Value {
	if b {
		return intOf(1)
	}
	return intOf(0)
}

// textOf gives a text; none, if it is too long.
func textOf(s string) api.Value {
	return orNone(api.Value{Kind: api.Text, Text: s})
}

// listOf gives the list of these items; none, if it isn't valid.
func listOf(items []api.Value) api.Value {
	return orNone(api.Value{Kind: api.List, Items: items})
}
