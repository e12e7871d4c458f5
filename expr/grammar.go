package expr

import "eddy/api"

// The levels of the grammar, from what takes most together to what takes least: where an expression of one level may stand, one of a later level may too.
const (
	levelExpr = iota
	levelOr
	levelAnd
	levelNot
	levelCmp
	levelSum
	levelTerm
	levelNeg
	levelAtom
)

// parse gives the tree of a text, or the text's first fault.
func parse(text string) (tree node, err error) {
	defer func() {
		if caught := recover(); caught != nil {
			tree, err = nil, asFault(caught)
		}
	}()
	if len(text) > api.MaxExpr {
		giveUp(0, api.ErrExprLong)
	}
	p := parser{scanner: scanner{text: text}}
	p.advance()
	tree = p.expr()
	if p.now.kind != endToken {
		p.refuse()
	}
	return tree, nil
}

// parser reads a text by the grammar, a function a rule. It goes past a token only where that token can stand: so the first token that is refused is the first one with a fault.
type parser struct {
	scanner
	now  token
	open int
}

// advance goes past the token that is looked at, and gives it.
func (p *parser) advance() token {
	passed := p.now
	p.now = p.next()
	return passed
}

// refuse gives up at the token that is looked at, which cannot stand there.
func (p *parser) refuse() {
	giveUp(p.now.at, api.ErrExprToken)
}

// passes goes past the next token, if it has one of these names, and gives its name; else it gives "".
func (p *parser) passes(names ...string) string {
	for _, name := range names {
		if p.now.name == name {
			p.advance()
			return name
		}
	}
	return ""
}

func (p *parser) want(name string) {
	if p.passes(name) == "" {
		p.refuse()
	}
}

func (p *parser) openBracket(name string) {
	if p.now.name != name {
		p.refuse()
	}
	// Ahead of the next token: a fault that stands behind this one isn't the first.
	if p.open == api.MaxDeep {
		giveUp(p.now.at, api.ErrExprDeep)
	}
	p.open++
	p.advance()
}

func (p *parser) closeBracket(name string) {
	p.want(name)
	p.open--
}

func (p *parser) expr() node {
	if p.passes("if") == "" {
		return p.or()
	}
	test := p.expr()
	p.want("then")
	yes := p.expr()
	p.want("else")
	return choice{test: test, yes: yes, no: p.expr()}
}

func (p *parser) or() node  { return p.chain(levelOr, p.and, "or") }
func (p *parser) and() node { return p.chain(levelAnd, p.not, "and") }

func (p *parser) not() node {
	if p.passes("not") == "" {
		return p.cmp()
	}
	return prefixed{level: levelNot, name: "not", side: p.not()}
}

func (p *parser) cmp() node {
	left := p.sum()
	name := p.passes("==", "!=", "<", "<=", ">", ">=")
	if name == "" {
		return left
	}
	return joined{level: levelCmp, name: name, left: left, right: p.sum()}
}

func (p *parser) sum() node  { return p.chain(levelSum, p.term, "+", "-") }
func (p *parser) term() node { return p.chain(levelTerm, p.neg, "*", "/", "%") }

func (p *parser) neg() node {
	if p.passes("-") == "" {
		return p.atom()
	}
	return prefixed{level: levelNeg, name: "-", side: p.neg()}
}

// chain reads sides with names between them; what stands to the left is taken together first.
func (p *parser) chain(level int, side func() node, names ...string) node {
	left := side()
	for {
		name := p.passes(names...)
		if name == "" {
			return left
		}
		left = joined{level: level, name: name, left: left, right: side()}
	}
}

func (p *parser) atom() node {
	if p.now.kind == valueToken {
		return constant{p.advance().val}
	}
	switch p.now.name {
	case "none":
		p.advance()
		return constant{}
	case "key", "val", "acc", "hops":
		return given{p.advance().name}
	case "(":
		return p.bracketed()
	case "[":
		return p.listing()
	}
	return p.called()
}

// bracketed leaves no trace of the brackets in the tree: Canon lays anew those that are needed.
func (p *parser) bracketed() node {
	p.openBracket("(")
	inner := p.expr()
	p.closeBracket(")")
	return inner
}

func (p *parser) listing() node {
	p.openBracket("[")
	var items []node
	if p.now.name != "]" {
		items = p.exprs(api.MaxItems)
	}
	p.closeBracket("]")
	return listing{items}
}

func (p *parser) called() node {
	call, ok := findCall(p.now.name)
	if !ok {
		p.refuse()
	}
	p.advance()
	p.openBracket("(")
	sides := p.exprs(call.sides)
	if len(sides) < call.sides {
		p.refuse()
	}
	p.closeBracket(")")
	return called{call: call, sides: sides}
}

// exprs reads expressions with commas between them, one or more, up to most.
func (p *parser) exprs(most int) []node {
	all := []node{p.expr()}
	for len(all) < most && p.passes(",") != "" {
		all = append(all, p.expr())
	}
	return all
}
