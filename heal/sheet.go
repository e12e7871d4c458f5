package heal

import (
	"strconv"
	"strings"

	"eddy/api"
	"eddy/expr"
	"eddy/value"
)

// sheet: the text of a plan and its tapes, of which the sum is taken.
type sheet struct {
	text []byte
}

func (s *sheet) line(words ...string) {
	s.text = append(s.text, strings.Join(words, " ")...)
	s.text = append(s.text, '\n')
}

// numbers writes a line of a word and numbers.
func (s *sheet) numbers(word string, numbers ...int) {
	words := []string{word}
	for _, n := range numbers {
		words = append(words, strconv.Itoa(n))
	}
	s.line(words...)
}

func (s *sheet) plan(p api.Plan) {
	s.numbers("plan", p.Cap)
	for _, t := range p.Tasks {
		s.numbers("task "+t.Name, t.Kind, t.Num)
		for _, text := range t.Exprs {
			s.expr(text)
		}
	}
	for _, e := range p.Edges {
		s.numbers("edge", e.From, e.Out, e.To, e.In)
	}
}

// expr writes an expression. One that has a fault stands in no valid plan, and nothing is written of it.
func (s *sheet) expr(text string) {
	canon, err := expr.Canon(text)
	if err == nil {
		s.line("expr", canon)
	}
}

func (s *sheet) tape(records []api.Record) {
	s.line("tape")
	for _, r := range records {
		s.line(value.Print(api.Value{Kind: api.Text, Text: r.Key}), value.Print(r.Val))
	}
}
