package expr_test

import (
	"math/big"
	"math/rand"
	"regexp"
	"slices"
	"strconv"
	"strings"

	"eddy/api"
	"eddy/value"
)

// This file is a second reading of the chapter, in other ways than the program's: tokens by regular expressions, faults by a machine with a stack, trees by the strength of the signs, numbers without a bound.

var (
	pieceForm = regexp.MustCompile(`^(?s:[0-9]+|[a-z]+|"(?:[^"\\]|\\.)*(?:"|\\?$)|<=|>=|==|!=|[-+*/%()\[\],<>])`)
	textForm  = regexp.MustCompile(`^"(?:[ !#-\[\]-~]|\\["\\nt]|\\x[0-9A-Fa-f]{2}){0,24}"$`)
	wordForm  = regexp.MustCompile(`^[a-z]+$`)
)

// strengths tells how strongly a sign holds its two sides together.
var strengths = map[string]int{
	"or": 1, "and": 2, "==": 4, "!=": 4, "<": 4, "<=": 4, ">": 4, ">=": 4, "+": 5, "-": 5, "*": 6, "/": 6, "%": 6,
}

// sidesOf tells how many exprs a call takes.
var sidesOf = map[string]int{
	"len": 1, "kind": 1, "int": 1, "text": 1, "sum": 1, "sort": 1, "rev": 1,
	"at": 2, "take": 2, "drop": 2, "min": 2, "max": 2, "has": 2, "put": 3,
}

// ownFault tells the fault that a piece has by itself.
func ownFault(p string) api.Errno {
	switch {
	case p == "":
		return api.ErrExprByte
	case p[0] >= '0' && p[0] <= '9':
		bare := strings.TrimLeft(p, "0")
		if len(bare) > 19 || len(bare) == 19 && bare > "9223372036854775807" {
			return api.ErrExprNumber
		}
	case wordForm.MatchString(p):
		if sidesOf[p] == 0 && !strings.Contains(" key val acc hops none if then else and or not ", " "+p+" ") {
			return api.ErrExprName
		}
	case p[0] == '"':
		if !textForm.MatchString(p) {
			return api.ErrExprText
		}
	}
	return api.OK
}

// around is something that is open: the whole text (""), a bracket, a call (by its name), or an "if" or "then" whose next word is awaited.
type around struct {
	open     string
	commas   int
	compared bool
}

// machine tells piece by piece whether it can stand there. wants is what may stand next: "expr", "item" (an expr, or the end of an empty list), "not" (no if), "side" (no if and no not), "sign" (what stands behind a side), or "call" (a call's bracket).
type machine struct {
	wants string
	call  string
	stack []around
}

func (m *machine) top() *around { return &m.stack[len(m.stack)-1] }

func (m *machine) push(open string) bool {
	m.stack = append(m.stack, around{open: open})
	m.wants = "expr"
	return true
}

func (m *machine) pop(wants string) bool {
	m.stack = m.stack[:len(m.stack)-1]
	m.wants = wants
	return true
}

func (m *machine) brackets() int {
	n := 0
	for _, a := range m.stack {
		if a.open != "" && a.open != "if" && a.open != "then" {
			n++
		}
	}
	return n
}

func (m *machine) takes(p string) bool {
	switch m.wants {
	case "call":
		return p == "(" && m.push(m.call)
	case "sign":
		return m.takesSign(p)
	}
	switch {
	case p == "if":
		return (m.wants == "expr" || m.wants == "item") && m.push("if")
	case p == "not":
		ok := m.wants != "side"
		m.wants = "not"
		return ok
	case p == "-":
		m.wants = "side"
		return true
	case p == "(":
		return m.push(p)
	case p == "[":
		m.push(p)
		m.wants = "item"
		return true
	case p == "]":
		return m.wants == "item" && m.pop("sign")
	case sidesOf[p] > 0:
		m.wants, m.call = "call", p
		return true
	}
	m.wants = "sign"
	return strings.Contains(" key val acc hops none ", " "+p+" ") || p[0] == '"' || p[0] >= '0' && p[0] <= '9'
}

func (m *machine) takesSign(p string) bool {
	top := m.top()
	switch strengths[p] {
	case 5, 6:
		m.wants = "side"
		return true
	case 4:
		ok := !top.compared
		top.compared, m.wants = true, "side"
		return ok
	case 1, 2:
		top.compared, m.wants = false, "not"
		return true
	}
	switch p {
	case "then":
		ok := top.open == "if"
		*top, m.wants = around{open: "then"}, "expr"
		return ok
	case "else":
		return top.open == "then" && m.pop("expr")
	case ")":
		return (top.open == "(" || sidesOf[top.open] > 0 && top.commas+1 == sidesOf[top.open]) && m.pop("sign")
	case "]":
		return top.open == "[" && m.pop("sign")
	case ",":
		ok := top.open == "[" && top.commas < 5 || top.commas+1 < sidesOf[top.open]
		top.commas, top.compared, m.wants = top.commas+1, false, "expr"
		return ok
	}
	return false
}

// firstFault tells what P3.3 asks of a text: the fault and its place, OK and 0 if there is none.
func firstFault(s string) (int, api.Errno) {
	if len(s) > 100 {
		return 0, api.ErrExprLong
	}
	m := machine{wants: "expr", stack: []around{{}}}
	for at := 0; ; {
		for at < len(s) && s[at] == ' ' {
			at++
		}
		if at == len(s) {
			if m.wants == "sign" && len(m.stack) == 1 {
				return 0, api.OK
			}
			return at, api.ErrExprToken
		}
		p := pieceForm.FindString(s[at:])
		if e := ownFault(p); e != api.OK {
			return at, e
		}
		if !m.takes(p) {
			return at, api.ErrExprToken
		}
		if m.brackets() > 10 {
			return at, api.ErrExprDeep
		}
		at += len(p)
	}
}

// cut gives the pieces of a text without a fault.
func cut(s string) []string {
	var all []string
	for s = strings.TrimLeft(s, " "); s != ""; s = strings.TrimLeft(s, " ") {
		p := pieceForm.FindString(s)
		all = append(all, p)
		s = s[len(p):]
	}
	return all
}

// tree is an expression without its brackets: op is a sign, a word, a call's name, "[", or "is" for a value.
type tree struct {
	op   string
	val  api.Value
	kids []tree
}

// climber reads the tree of pieces without a fault, by the strengths of the signs.
type climber struct{ left []string }

// treeOf gives the tree of a text without a fault.
func treeOf(s string) tree {
	c := climber{cut(s)}
	return c.read(0)
}

func (c *climber) next() string {
	p := c.left[0]
	c.left = c.left[1:]
	return p
}

// read takes together what is held with the strength least or a greater one.
func (c *climber) read(least int) tree {
	t := c.side()
	for len(c.left) > 0 && strengths[c.left[0]] >= max(least, 1) {
		op := c.next()
		t = tree{op: op, kids: []tree{t, c.read(strengths[op] + 1)}}
	}
	return t
}

func (c *climber) side() tree {
	p := c.next()
	switch {
	case p == "if":
		t := tree{op: "if"}
		for range 3 {
			t.kids = append(t.kids, c.read(0))
			if len(t.kids) < 3 {
				c.next()
			}
		}
		return t
	case p == "not":
		return tree{op: "not", kids: []tree{c.read(3)}}
	case p == "-":
		return tree{op: "neg", kids: []tree{c.read(7)}}
	case p == "(":
		t := c.read(0)
		c.next()
		return t
	case p == "[":
		return tree{op: "[", kids: c.sides("]")}
	case sidesOf[p] > 0:
		c.next()
		return tree{op: p, kids: c.sides(")")}
	case p[0] == '"':
		return tree{op: "is", val: text(unquoted(p))}
	case p[0] >= '0' && p[0] <= '9':
		n, _ := new(big.Int).SetString(p, 10)
		return tree{op: "is", val: num(n.Int64())}
	}
	return tree{op: p}
}

func (c *climber) sides(closing string) []tree {
	var all []tree
	for c.left[0] != closing {
		all = append(all, c.read(0))
		if c.left[0] == "," {
			c.next()
		}
	}
	c.next()
	return all
}

// unquoted gives what a text in quotes means.
func unquoted(p string) string {
	// Go has the same five forms for bytes.
	s, err := strconv.Unquote(p)
	if err != nil {
		panic(err)
	}
	return s
}

// quoted gives a text in quotes, its bytes as P3.5 writes them.
func quoted(s string) string {
	b := []byte{'"'}
	for _, c := range []byte(s) {
		switch {
		case c == '"' || c == '\\':
			b = append(b, '\\', c)
		case c == '\n':
			b = append(b, `\n`...)
		case c == '\t':
			b = append(b, `\t`...)
		case c < 0x20 || c > 0x7e:
			b = append(b, `\x`...)
			if c < 0x10 {
				b = append(b, '0')
			}
			b = strconv.AppendInt(b, int64(c), 16)
		default:
			b = append(b, c)
		}
	}
	return string(append(b, '"'))
}

// loud writes a tree with brackets around every side that isn't one piece.
func (t tree) loud() string {
	all := make([]string, len(t.kids))
	for k, kid := range t.kids {
		all[k] = kid.loud()
		if len(kid.kids) > 0 && t.op != "[" && sidesOf[t.op] == 0 {
			all[k] = "(" + all[k] + ")"
		}
	}
	switch {
	case t.op == "is" && t.val.Kind == api.Int:
		return strconv.FormatInt(t.val.Int, 10)
	case t.op == "is":
		return quoted(t.val.Text)
	case t.op == "if":
		return "if " + all[0] + " then " + all[1] + " else " + all[2]
	case t.op == "not":
		return "not " + all[0]
	case t.op == "neg":
		return "- " + all[0]
	case t.op == "[":
		return "[" + strings.Join(all, ", ") + "]"
	case sidesOf[t.op] > 0:
		return t.op + "(" + strings.Join(all, ", ") + ")"
	case len(all) == 2:
		return all[0] + " " + t.op + " " + all[1]
	}
	return t.op
}

// valid gives v, or none in its place.
func valid(v api.Value) api.Value {
	if value.Check(v) != api.OK {
		return none
	}
	return v
}

// isTrue answers P3.8.
func isTrue(v api.Value) bool {
	v = valid(v)
	return !slices.ContainsFunc([]api.Value{none, num(0), text(""), list()}, func(no api.Value) bool { return same(v, no) })
}

func bit(b bool) api.Value {
	if b {
		return num(1)
	}
	return num(0)
}

// bounded gives a number as an int, none if it is outside int64.
func bounded(n *big.Int) api.Value {
	if !n.IsInt64() {
		return none
	}
	return num(n.Int64())
}

// worth gives the value of a tree, by P3.7 to P3.12.
func (t tree) worth(r api.Record, acc api.Value) api.Value {
	var x []api.Value
	for _, kid := range t.kids {
		x = append(x, kid.worth(r, acc))
	}
	switch t.op {
	case "is":
		return t.val
	case "none":
		return none
	case "key":
		if len(r.Key) > 12 {
			return none
		}
		return text(r.Key)
	case "val":
		return valid(r.Val)
	case "acc":
		return valid(acc)
	case "hops":
		if len(r.Loops) < 1 || len(r.Loops) > 3 {
			return none
		}
		return num(int64(r.Loops[len(r.Loops)-1]))
	case "if":
		if isTrue(x[0]) {
			return x[1]
		}
		return x[2]
	case "or":
		return bit(isTrue(x[0]) || isTrue(x[1]))
	case "and":
		return bit(isTrue(x[0]) && isTrue(x[1]))
	case "not":
		return bit(!isTrue(x[0]))
	case "[":
		return valid(list(x...))
	}
	if strengths[t.op] == 4 {
		return bit(strings.Contains(map[int]string{-1: " < <= != ", 0: " == <= >= ", 1: " > >= != "}[value.Compare(x[0], x[1])], " "+t.op+" "))
	}
	if sidesOf[t.op] > 0 {
		return callWorth(t.op, x)
	}
	return signWorth(t.op, x)
}

func signWorth(op string, x []api.Value) api.Value {
	if op == "neg" {
		op, x = "-", []api.Value{num(0), x[0]}
	}
	a, b := x[0], x[1]
	if op == "+" && a.Kind == api.Text && b.Kind == api.Text {
		return valid(text(strings.Join([]string{a.Text, b.Text}, "")))
	}
	if op == "+" && a.Kind == api.List && b.Kind == api.List {
		return valid(list(append(append([]api.Value{}, a.Items...), b.Items...)...))
	}
	if a.Kind != api.Int || b.Kind != api.Int {
		return none
	}
	p, q, n := big.NewInt(a.Int), big.NewInt(b.Int), new(big.Int)
	switch op {
	case "+":
		return bounded(n.Add(p, q))
	case "-":
		return bounded(n.Sub(p, q))
	case "*":
		return bounded(n.Mul(p, q))
	}
	if b.Int == 0 {
		return none
	}
	// Over a number above 0 Euclid's quotient is the greatest whole number that isn't above the exact one: so both sides change their signs, where b is below 0.
	up, under := new(big.Int).Set(p), new(big.Int).Set(q)
	if q.Sign() < 0 {
		up.Neg(p)
		under.Neg(q)
	}
	n.Div(up, under)
	if op == "/" {
		return bounded(n)
	}
	return bounded(n.Sub(p, n.Mul(n, q)))
}

// listed gives a text as the list of the texts of its bytes, a list as itself.
func listed(v api.Value) []api.Value {
	all := append([]api.Value{}, v.Items...)
	for _, c := range []byte(v.Text) {
		all = append(all, text(string([]byte{c})))
	}
	return all
}

// unlisted lays items together to what v is, a text or a list.
func unlisted(v api.Value, items []api.Value) api.Value {
	if v.Kind == api.List {
		return valid(list(items...))
	}
	s := ""
	for _, item := range items {
		s += item.Text
	}
	return valid(text(s))
}

func callWorth(op string, x []api.Value) api.Value {
	v, items := x[0], listed(x[0])
	isList, isRow := v.Kind == api.List, v.Kind == api.List || v.Kind == api.Text
	switch {
	case op == "kind":
		return num(int64(v.Kind))
	case op == "len" && isRow:
		return num(int64(len(items)))
	case op == "int" && v.Kind == api.Int, op == "text" && v.Kind == api.Text:
		return v
	case op == "int" && regexp.MustCompile(`^-?[0-9]+$`).MatchString(v.Text):
		n, _ := new(big.Int).SetString(v.Text, 10)
		return bounded(n)
	case op == "text" && v.Kind == api.Int:
		return text(big.NewInt(v.Int).String())
	case op == "sum" && isList:
		n := new(big.Int)
		for _, item := range items {
			if item.Kind != api.Int || !n.Add(n, big.NewInt(item.Int)).IsInt64() {
				return none
			}
		}
		return bounded(n)
	case op == "sort" && isList:
		for range items {
			for k := 1; k < len(items); k++ {
				if value.Compare(items[k-1], items[k]) > 0 {
					items[k-1], items[k] = items[k], items[k-1]
				}
			}
		}
		return list(items...)
	case op == "rev" && isRow:
		var back []api.Value
		for k := len(items) - 1; k >= 0; k-- {
			back = append(back, items[k])
		}
		return unlisted(v, back)
	case op == "min", op == "max":
		order := []api.Value{x[0], x[1]}
		if value.Compare(x[0], x[1]) > 0 {
			order = []api.Value{x[1], x[0]}
		}
		return order[map[string]int{"min": 0, "max": 1}[op]]
	case op == "has" && isList:
		return bit(slices.ContainsFunc(items, func(item api.Value) bool { return same(item, x[1]) }))
	case op == "has" && v.Kind == api.Text && x[1].Kind == api.Text:
		return bit(regexp.MustCompile("(?s)" + regexp.QuoteMeta(hexed(x[1].Text))).MatchString(hexed(v.Text)))
	}
	if len(x) > 1 && isRow && x[1].Kind == api.Int {
		return placedWorth(op, v, items, x)
	}
	return none
}

// hexed gives a text's bytes as words, so that one byte's end is never taken together with the next one's beginning.
func hexed(s string) string {
	out := ""
	for _, c := range []byte(s) {
		out += " " + strconv.Itoa(int(c)) + ","
	}
	return out
}

// placedWorth answers the calls with a place or a number behind x.
func placedWorth(op string, v api.Value, items, x []api.Value) api.Value {
	n := big.NewInt(x[1].Int)
	var front, back []api.Value
	for k, item := range items {
		at := big.NewInt(int64(k))
		if at.Cmp(n) < 0 {
			front = append(front, item)
		} else {
			back = append(back, item)
		}
		if n.Cmp(at) == 0 || n.Cmp(big.NewInt(int64(k-len(items)))) == 0 {
			if op == "at" {
				return item
			}
			if op == "put" && v.Kind == api.List {
				items[k] = x[2]
				return valid(list(items...))
			}
		}
	}
	switch {
	case op == "take":
		return unlisted(v, front)
	case op == "drop":
		return unlisted(v, back)
	case op == "put" && v.Kind == api.List && n.Cmp(big.NewInt(int64(len(items)))) == 0:
		return valid(list(append(items, x[2])...))
	}
	return none
}

// chance makes trees, texts and scopes from a seed.
type chance struct{ *rand.Rand }

func chanceFrom(seed int64) chance { return chance{rand.New(rand.NewSource(seed))} }

func (c chance) one(of ...string) string { return of[c.Intn(len(of))] }

func (c chance) trees(n, size int) []tree {
	var all []tree
	for range n {
		all = append(all, c.tree(size))
	}
	return all
}

// tree makes a tree of few parts.
func (c chance) tree(size int) tree {
	if size <= 0 {
		return c.leaf()
	}
	size -= 1 + c.Intn(2)
	switch c.Intn(9) {
	case 0:
		return tree{op: "if", kids: c.trees(3, size/2)}
	case 1:
		return tree{op: c.one("not", "neg"), kids: c.trees(1, size)}
	case 2:
		return tree{op: "[", kids: c.trees(c.Intn(5), size/2)}
	case 3, 4:
		op := c.one("len", "kind", "int", "text", "sum", "sort", "rev", "at", "take", "drop", "min", "max", "has", "put")
		return tree{op: op, kids: c.trees(sidesOf[op], size/2)}
	case 5:
		return tree{op: c.one("or", "and"), kids: c.trees(2, size/2)}
	case 6:
		return tree{op: c.one("==", "!=", "<", "<=", ">", ">="), kids: c.trees(2, size/2)}
	}
	return tree{op: c.one("+", "+", "-", "*", "/", "%"), kids: c.trees(2, size/2)}
}

func (c chance) leaf() tree {
	switch c.Intn(8) {
	case 0:
		return tree{op: "is", val: num([]int64{0, 1, 2, 3, 10, 1 << 62, 1<<63 - 1}[c.Intn(7)])}
	case 1:
		return tree{op: "is", val: num(int64(c.Intn(4)))}
	case 2:
		return tree{op: "is", val: text(c.one("", "a", "ab", "-7", "0", "a\"", "\\", "\n\t", "\x00\xff", "\u00e9"))}
	}
	return tree{op: c.one("key", "val", "val", "val", "acc", "acc", "hops", "none")}
}

// dressed writes a text's pieces with blanks among them, zeros ahead of numbers, and brackets around what is one piece alone.
func (c chance) dressed(s string) string {
	out := ""
	for _, p := range cut(s) {
		isNumber := p[0] >= '0' && p[0] <= '9'
		if isNumber && c.Intn(3) == 0 {
			p = "00" + p
		}
		if (isNumber || p[0] == '"' || strings.Contains(" key val acc hops none ", " "+p+" ")) && c.Intn(3) == 0 {
			p = "( " + p + ")"
		}
		out += strings.Repeat(" ", 1+c.Intn(2)) + p
	}
	return out + c.one("", " ")
}

// scope makes a record and an acc, valid ones most of the time.
func (c chance) scope() (api.Record, api.Value) {
	vals := someValues()
	if c.Intn(8) == 0 {
		vals = faultyValues()
	}
	r := api.Record{Key: c.one("", "a", "key", "\xff", long(12), long(13)), Val: vals[c.Intn(len(vals))]}
	for range c.Intn(5) {
		r.Loops = append(r.Loops, c.Intn(12)-1)
	}
	return r, vals[c.Intn(len(vals))]
}
