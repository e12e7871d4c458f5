package heal

import (
	"strconv"
	"strings"

	"eddy/api"
	"eddy/expr"
	"eddy/value"
)

// sheet: the text of a plan and its tapes, of which the sum is taken.
type sheet struct {
	text []byte
}

func (s *sheet) line(words ...string) {
	s.text = append(s.text, strings.Join(words, " ")...)
	s.text = append(s.text, '\n')
}

// numbers writes a line of a word and numbers.
func (s *sheet) numbers(word string, numbers ...int) {
	words := []string{word}
	for _, n := range numbers {
		words = append(words, strconv.Itoa(n))
	}
	s.line(words...)
}

func (s *sheet) plan(p api.Plan) {
	s.numbers("plan", p.Cap)
	for _, t := range p.Tasks {
		s.numbers("task "+t.Name, t.Kind, t.Num)
		for _, text := range t.Exprs {
			// Of an expression that has a fault, which no valid plan has, there is no Canon: it is empty.
			canon, _ := expr.Canon(text)
			s.line("expr", canon)
		}
	}
	for _, e := range p.Edges {
		s.numbers("edge", e.From, e.Out, e.To, e.In)
	}
}

func (s *sheet) tape(records []api.Record) {
	s.line("tape")
	for _, r := range records {
		s.line(value.Print(api.Value{Kind: api.Text, Text: r.Key}), value.Print(r.Val))
	}
}
