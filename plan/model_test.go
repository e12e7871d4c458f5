package plan_test

import (
	"fmt"
	"regexp"
	"slices"
	"strconv"
	"strings"

	"eddy/api"
	"eddy/expr"
	"eddy/value"
)

// This file reads the chapter a second time, as plainly as it can be done, to hold the package against it.

var (
	passedOver = regexp.MustCompile(`(?s)^ *(#.*)?$`)
	aWord      = regexp.MustCompile(`[^ ]+`)
	aNumber    = regexp.MustCompile(`^[0-9]{1,9}$`)
	aSigned    = regexp.MustCompile(`^-?[0-9]{1,9}$`)
	aName      = regexp.MustCompile(`^[a-z][a-z0-9]{0,7}$`)
	quoted     = `(?s:"(?:[^"\\]|\\.)*(?:"|\\?$))`
	cutMark    = regexp.MustCompile(quoted + `|;`)
	keyAhead   = regexp.MustCompile(`^ *(` + quoted + `)`)
)

const kindWords = "source map filter fold union split tee join window dedup head tail sink"
const stepWords = "pick trigger post abort crash arm fail spoil recover"

// numberOf gives the place of a word among words, from 1 on; 0, if it isn't among them.
func numberOf(word, words string) int { return slices.Index(strings.Fields(words), word) + 1 }

type modelWord struct {
	text string
	at   int
}

type modelLine struct {
	number int
	text   string
	words  []modelWord
}

// readBy reads the lines that aren't passed over; a fault is thrown by the line it is in.
func readBy[T any](text string, most int, read func(all []modelLine, last modelLine) T) (thing T, f told) {
	if len(text) > most {
		return thing, told{0, 0, api.ErrPlanLong}
	}
	defer func() {
		if caught := recover(); caught != nil {
			var zero T
			thing, f = zero, caught.(told)
		}
	}()
	var all []modelLine
	var last modelLine
	for k, s := range strings.Split(text, "\n") {
		last = modelLine{number: k + 1, text: s, words: wordsFrom(s, 0)}
		if !passedOver.MatchString(s) {
			all = append(all, last)
		}
	}
	return read(all, last), told{}
}

// wordsFrom gives the words of what stands in s from a place on.
func wordsFrom(s string, from int) []modelWord {
	var words []modelWord
	for _, at := range aWord.FindAllStringIndex(s[from:], -1) {
		words = append(words, modelWord{s[from:][at[0]:at[1]], from + at[0]})
	}
	return words
}

func (l modelLine) throw(at int, e api.Errno) { panic(told{l.number, at, e}) }

// word gives a word; where it is missing, an empty one at the line's end.
func (l modelLine) word(k int) modelWord {
	if k < len(l.words) {
		return l.words[k]
	}
	return modelWord{"", len(l.text)}
}

func (l modelLine) numbered(k int, form *regexp.Regexp) int {
	w := l.word(k)
	if !form.MatchString(w.text) {
		l.throw(w.at, api.ErrPlanNumber)
	}
	n, _ := strconv.Atoi(w.text)
	return n
}

func (l modelLine) plain(k int) int  { return l.numbered(k, aNumber) }
func (l modelLine) signed(k int) int { return l.numbered(k, aSigned) }

// ends says that the line has so many words.
func (l modelLine) ends(k int) {
	if k < len(l.words) {
		l.throw(l.words[k].at, api.ErrPlanWord)
	}
}

func modelPlan(text string) (api.Plan, told) {
	return readBy(text, 3000, func(all []modelLine, last modelLine) (p api.Plan) {
		if len(all) == 0 {
			last.throw(len(last.text), api.ErrPlanEnd)
		}
		for k, l := range all {
			first := l.word(0)
			switch {
			case k == 0 && first.text == "plan":
				p.Cap = l.plain(1)
				l.ends(2)
			case k > 0 && first.text == "task":
				if len(p.Tasks) >= 12 {
					l.throw(first.at, api.ErrPlanMany)
				}
				p.Tasks = append(p.Tasks, l.task(p))
			case k > 0 && first.text == "edge":
				if len(p.Edges) >= 24 {
					l.throw(first.at, api.ErrPlanMany)
				}
				from, out := l.port(p, 1)
				to, in := l.port(p, 2)
				l.ends(3)
				p.Edges = append(p.Edges, api.Edge{From: from, Out: out, To: to, In: in})
			default:
				l.throw(first.at, api.ErrPlanWord)
			}
		}
		return p
	})
}

func taskOf(p api.Plan, name string) int {
	return slices.IndexFunc(p.Tasks, func(t api.Task) bool { return t.Name == name })
}

func (l modelLine) task(p api.Plan) api.Task {
	name, kind := l.word(1), l.word(2)
	if !aName.MatchString(name.text) {
		l.throw(name.at, api.ErrPlanName)
	}
	if taskOf(p, name.text) >= 0 {
		l.throw(name.at, api.ErrPlanTwice)
	}
	t := api.Task{Name: name.text, Kind: numberOf(kind.text, kindWords)}
	switch kind.text {
	case "source", "window":
		t.Num = l.plain(3)
		l.ends(4)
	case "map", "fold":
		t.Exprs = l.pieces(kind.at+len(kind.text), 2)
	case "filter", "split":
		t.Exprs = l.pieces(kind.at+len(kind.text), 1)
	case "tail":
		t.Exprs, t.Num = l.tail(kind.at + len(kind.text))
	case "union", "tee", "join", "dedup", "head", "sink":
		l.ends(3)
	default:
		l.throw(kind.at, api.ErrPlanWord)
	}
	return t
}

// marks gives the places of the ; that aren't in quotes, and the line's end.
func (l modelLine) marks(from int) []int {
	var all []int
	for _, at := range cutMark.FindAllStringIndex(l.text[from:], -1) {
		if l.text[from+at[0]] == ';' {
			all = append(all, from+at[0])
		}
	}
	return append(all, len(l.text))
}

func (l modelLine) pieces(from, n int) []string {
	var all []string
	marks := l.marks(from)
	for k := range n {
		all = append(all, l.canon(from, marks[k]))
		if k+1 == n && marks[k] < len(l.text) || k+1 < n && marks[k] == len(l.text) {
			l.throw(marks[k], api.ErrPlanWord)
		}
		from = marks[k] + 1
	}
	return all
}

func (l modelLine) tail(from int) ([]string, int) {
	mark := l.marks(from)[0]
	canon := l.canon(from, mark)
	if mark == len(l.text) {
		l.throw(mark, api.ErrPlanWord)
	}
	behind := modelLine{l.number, l.text, wordsFrom(l.text, mark+1)}
	n := behind.plain(0)
	behind.ends(1)
	return []string{canon}, n
}

func (l modelLine) canon(from, to int) string {
	for to > from && l.text[to-1] == ' ' && strings.Trim(l.text[from:to], " ") != "" {
		to--
	}
	for from < to && l.text[from] == ' ' {
		from++
	}
	if err := expr.Check(l.text[from:to]); err != nil {
		f := err.(*api.Fault)
		l.throw(from+f.At, f.Err.(api.Errno))
	}
	canon, _ := expr.Canon(l.text[from:to])
	return canon
}

func (l modelLine) port(p api.Plan, k int) (task, port int) {
	w := l.word(k)
	dot := strings.IndexByte(w.text, '.')
	name, number := w.text, ""
	if dot >= 0 {
		name, number = w.text[:dot], w.text[dot+1:]
	}
	if task = taskOf(p, name); task < 0 {
		l.throw(w.at, api.ErrPlanName)
	}
	if !aNumber.MatchString(number) && dot < 0 {
		l.throw(w.at+len(w.text), api.ErrPlanNumber)
	} else if !aNumber.MatchString(number) {
		l.throw(w.at+dot+1, api.ErrPlanNumber)
	}
	port, _ = strconv.Atoi(number)
	return task, port
}

func modelTape(text string) ([]api.Record, told) {
	return readBy(text, 4000, func(all []modelLine, _ modelLine) (records []api.Record) {
		for k, l := range all {
			first := l.word(0).at
			if k >= 64 {
				l.throw(first, api.ErrPlanMany)
			}
			at := keyAhead.FindStringSubmatchIndex(l.text)
			if at == nil {
				l.throw(first, api.ErrPlanValue)
			}
			key, place, e := value.Parse(l.text[at[2]:at[3]])
			if e != api.OK {
				l.throw(at[2]+place, e)
			}
			if len(key.Text) > 12 {
				l.throw(at[2], api.ErrValKey)
			}
			val, place, e := value.Parse(l.text[at[3]:])
			if e != api.OK {
				l.throw(at[3]+place, e)
			}
			records = append(records, api.Record{Key: key.Text, Val: val})
		}
		return records
	})
}

// A modelScripted reads lines, a block in a block.
type modelScripted struct{ left []modelLine }

func modelScript(text string) ([]api.Op, told) {
	return readBy(text, 8000, func(all []modelLine, _ modelLine) []api.Op {
		m := &modelScripted{all}
		steps, _ := m.block(nil)
		return steps
	})
}

// block reads up to the end of the block that begin opens (nil: of the whole script), and gives the line of its end.
func (m *modelScripted) block(begin *modelLine) (steps []api.Op, end modelLine) {
	for len(m.left) > 0 {
		l := m.left[0]
		m.left = m.left[1:]
		first, times := l.word(0), 1
		var more []api.Op
		switch first.text {
		case "end":
			if begin == nil {
				l.throw(first.at, api.ErrPlanEnd)
			}
			l.ends(1)
			return steps, l
		case "repeat":
			if times = l.plain(1); times < 1 || times > 2000 {
				l.throw(l.word(1).at, api.ErrPlanNumber)
			}
			l.ends(2)
			more, l = m.block(&l)
		default:
			more = []api.Op{l.step()}
		}
		if len(steps)+times*len(more) > 2000 {
			l.throw(l.word(0).at, api.ErrPlanMany)
		}
		for range times {
			steps = append(steps, more...)
		}
	}
	if begin != nil {
		begin.throw(begin.word(0).at, api.ErrPlanEnd)
	}
	return steps, modelLine{}
}

func (l modelLine) step() api.Op {
	first := l.word(0)
	op := api.Op{Kind: numberOf(first.text, stepWords)}
	switch first.text {
	case "pick", "spoil":
		op.A, op.B = l.signed(1), l.signed(2)
		l.ends(3)
	case "arm":
		op.A = l.signed(1)
		l.ends(2)
	case "fail":
		op.A = l.signed(1)
		if second := l.word(2); second.text != "" {
			if second.text != "after" {
				l.throw(second.at, api.ErrPlanWord)
			}
			op.B = l.signed(3)
		}
		l.ends(4)
	case "recover":
		k := 1
		if l.word(1).text == "arm" {
			op.A, k = l.plain(2)+1, 3
		}
		for ; k < len(l.words); k++ {
			op.Keep = append(op.Keep, l.signed(k))
		}
	case "trigger", "post", "abort", "crash":
		l.ends(1)
	default:
		l.throw(first.at, api.ErrPlanWord)
	}
	return op
}

// modelWritten gives a thing's text, and whether it can be written.
func modelWritten(thing any) (string, bool) {
	switch x := thing.(type) {
	case api.Plan:
		return modelPlanText(x)
	case []api.Record:
		return modelTapeText(x)
	}
	return modelScriptText(thing.([]api.Op))
}

func modelPlanText(p api.Plan) (string, bool) {
	if len(p.Tasks) > 12 || len(p.Edges) > 24 {
		return "", false
	}
	ok := true
	within := func(n int) int { ok = ok && n >= 0 && n <= 999999999; return n }
	s := fmt.Sprintf("plan %d\n", within(p.Cap))
	for k, t := range p.Tasks {
		if !aName.MatchString(t.Name) || taskOf(p, t.Name) != k || t.Kind < 1 || t.Kind > 13 {
			return "", false
		}
		kind := strings.Fields(kindWords)[t.Kind-1]
		exprs := map[string]int{"map": 2, "fold": 2, "filter": 1, "split": 1, "tail": 1}[kind]
		numbered := map[string]bool{"source": true, "window": true, "tail": true}[kind]
		ok = ok && len(t.Exprs) == exprs && (numbered || t.Num == 0)
		var pieces []string
		for _, e := range t.Exprs {
			canon, err := expr.Canon(e)
			ok = ok && err == nil
			pieces = append(pieces, canon)
		}
		if numbered {
			pieces = append(pieces, strconv.Itoa(within(t.Num)))
		}
		s += strings.TrimRight(fmt.Sprintf("task %s %s %s", t.Name, kind, strings.Join(pieces, " ; ")), " ") + "\n"
	}
	for _, e := range p.Edges {
		if e.From < 0 || e.From >= len(p.Tasks) || e.To < 0 || e.To >= len(p.Tasks) {
			return "", false
		}
		s += fmt.Sprintf("edge %s.%d %s.%d\n", p.Tasks[e.From].Name, within(e.Out), p.Tasks[e.To].Name, within(e.In))
	}
	return s, ok && len(s) <= 3000
}

func modelTapeText(l []api.Record) (string, bool) {
	s, ok := "", len(l) <= 64
	for _, r := range l {
		ok = ok && value.CheckRecord(r) == api.OK && len(r.Loops) == 0
		s += value.Print(text(r.Key)) + " " + value.Print(r.Val) + "\n"
	}
	return s, ok && len(s) <= 4000
}

func modelScriptText(l []api.Op) (string, bool) {
	s, ok := "", len(l) <= 2000
	for len(l) > 0 {
		run := 1
		for run < len(l) && fmt.Sprint(l[run]) == fmt.Sprint(l[0]) {
			run++
		}
		line, can := modelStepText(l[0])
		ok = ok && can
		if run > 2 {
			s += fmt.Sprintf("repeat %d\n%send\n", run, line)
		} else {
			s += strings.Repeat(line, run)
		}
		l = l[run:]
	}
	return s, ok && len(s) <= 8000
}

func modelStepText(op api.Op) (string, bool) {
	if op.Kind < 1 || op.Kind > 9 {
		return "", false
	}
	numbers := append([]int{op.A, op.B}, op.Keep...)
	if op.Kind == api.OpRecover && op.A > 0 {
		numbers[0]--
	}
	for _, n := range numbers {
		if n < -999999999 || n > 999999999 {
			return "", false
		}
	}
	word := strings.Fields(stepWords)[op.Kind-1]
	switch {
	case word == "recover":
		s := "recover"
		if op.A > 0 {
			s += fmt.Sprint(" arm ", op.A-1)
		}
		for _, n := range op.Keep {
			s += fmt.Sprint(" ", n)
		}
		return s + "\n", op.A >= 0 && op.B == 0
	case len(op.Keep) > 0:
		return "", false
	case word == "pick" || word == "spoil":
		return fmt.Sprintf("%s %d %d\n", word, op.A, op.B), true
	case word == "fail" && op.B != 0:
		return fmt.Sprintf("fail %d after %d\n", op.A, op.B), true
	case word == "fail" || word == "arm":
		return fmt.Sprintf("%s %d\n", word, op.A), op.B == 0
	}
	return word + "\n", op.A == 0 && op.B == 0
}
