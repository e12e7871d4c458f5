package expr

import (
	"strings"

	"eddy/api"
	"eddy/value"
)

// written gives the one text of a tree.
func written(tree node) string {
	var w writer
	w.node(tree, levelExpr)
	return string(w.out)
}

type writer struct{ out []byte }

// token lays a token behind the others. Two words would be read as one without a blank between them; no other two tokens that stand next to one another would.
func (w *writer) token(s string) {
	if n := len(w.out); n > 0 && isLetter(w.out[n-1]) && isLetter(s[0]) {
		w.out = append(w.out, ' ')
	}
	w.out = append(w.out, s...)
}

func isLetter(c byte) bool { return c >= 'a' && c <= 'z' }

// node writes a node where the grammar takes none of a level below least.
func (w *writer) node(n node, least int) {
	if level(n) < least {
		w.token("(")
		w.node(n, levelExpr)
		w.token(")")
		return
	}
	switch n := n.(type) {
	case constant:
		w.token(constantText(n.val))
	case given:
		w.token(n.name)
	case prefixed:
		w.token(n.name)
		w.node(n.side, n.level)
	case joined:
		w.node(n.left, leftLevel(n.level))
		w.token(n.name)
		w.node(n.right, n.level+1)
	case choice:
		w.token("if")
		w.node(n.test, levelExpr)
		w.token("then")
		w.node(n.yes, levelExpr)
		w.token("else")
		w.node(n.no, levelExpr)
	case listing:
		w.token("[")
		w.nodes(n.items)
		w.token("]")
	case called:
		w.token(n.call.name)
		w.token("(")
		w.nodes(n.sides)
		w.token(")")
	}
}

func (w *writer) nodes(all []node) {
	for k, n := range all {
		if k > 0 {
			w.token(",")
		}
		w.node(n, levelExpr)
	}
}

// level tells at which level of the grammar a node stands without brackets.
func level(n node) int {
	switch n := n.(type) {
	case choice:
		return levelExpr
	case prefixed:
		return n.level
	case joined:
		return n.level
	}
	return levelAtom
}

// leftLevel tells which level the left side of a sign needs: the sign's own, since what stands to the left is taken together first; but two comparisons don't stand beside one another.
func leftLevel(own int) int {
	if own == levelCmp {
		return own + 1
	}
	return own
}

func constantText(v api.Value) string {
	if v.Kind != api.Text {
		return value.Print(v)
	}
	var b strings.Builder
	b.WriteByte('"')
	for k := range len(v.Text) {
		// Alone, a byte from 0x80 on is no UTF-8: so it is printed in hex.
		form := value.Print(textOf(v.Text[k : k+1]))
		b.WriteString(form[1 : len(form)-1])
	}
	b.WriteByte('"')
	return b.String()
}
