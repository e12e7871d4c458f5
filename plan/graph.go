package plan

import (
	"strings"

	"eddy/api"
	"eddy/expr"
	"eddy/quote"
)

// planReader reads a plan's lines. numbers has the names of the tasks read so far.
type planReader struct {
	plan    api.Plan
	begun   bool
	numbers names
}

func (r *planReader) line(l *line) error {
	first := l.word()
	switch {
	case first.text == "plan" && !r.begun:
		return r.head(l)
	case first.text == "task" && r.begun:
		return r.task(l, first)
	case first.text == "edge" && r.begun:
		return r.edge(l, first)
	}
	return l.fault(first.at, api.ErrPlanWord)
}

func (r *planReader) end(last *line) error {
	if !r.begun {
		return last.fault(len(last.text), api.ErrPlanEnd)
	}
	return nil
}

func (r *planReader) head(l *line) error {
	bound, err := l.number(plain)
	if err != nil {
		return err
	}
	r.plan.Cap, r.begun = bound, true
	return l.finish()
}

func (r *planReader) task(l *line, first word) error {
	if len(r.plan.Tasks) == api.MaxTasks {
		return l.fault(first.at, api.ErrPlanMany)
	}
	name := l.word()
	if err := r.numbers.add(name.text); err != nil {
		return l.fault(name.at, err)
	}
	kind := l.word()
	follows, ok := kinds()[kind.text]
	if !ok {
		return l.fault(kind.at, api.ErrPlanWord)
	}
	// A piece of the text would keep all of it.
	t := api.Task{Name: strings.Clone(name.text), Kind: follows.kind}
	var err error
	if t.Exprs, err = l.exprs(follows); err != nil {
		return err
	}
	if follows.numbers > 0 {
		if t.Num, err = l.number(plain); err != nil {
			return err
		}
	}
	r.plan.Tasks = append(r.plan.Tasks, t)
	return l.finish()
}

func (r *planReader) edge(l *line, first word) error {
	if len(r.plan.Edges) == api.MaxEdges {
		return l.fault(first.at, api.ErrPlanMany)
	}
	var e api.Edge
	var err error
	if e.From, e.Out, err = r.port(l); err != nil {
		return err
	}
	if e.To, e.In, err = r.port(l); err != nil {
		return err
	}
	r.plan.Edges = append(r.plan.Edges, e)
	return l.finish()
}

// port reads a task's name and the number of one of its ports.
func (r *planReader) port(l *line) (task, port int, err error) {
	w := l.word()
	name, number, _ := strings.Cut(w.text, ".")
	if task, err = r.numbers.find(name); err != nil {
		return 0, 0, l.fault(w.at, err)
	}
	if port, err = plain(number); err != nil {
		return 0, 0, l.fault(l.at-len(number), err)
	}
	return task, port, nil
}

// exprs reads the pieces that are expressions, each with the ; behind it if another piece is to follow.
func (l *line) exprs(follows layout) ([]string, error) {
	var all []string
	for k := range follows.exprs {
		canon, err := l.expression()
		if err != nil {
			return nil, err
		}
		all = append(all, canon)
		// Behind a piece stands a ; or nothing.
		another := k+1 < follows.exprs+follows.numbers
		if another != (l.rest() != "") {
			return nil, l.fault(l.at, api.ErrPlanWord)
		}
		if another {
			l.at++
		}
	}
	return all, nil
}

// expression reads a piece as an expression, and gives its one form.
func (l *line) expression() (string, error) {
	piece := strings.TrimLeft(l.piece(), " ")
	begin := l.at - len(piece)
	canon, err := expr.Canon(strings.TrimRight(piece, " "))
	return canon, l.moved(err, begin)
}

// piece reads up to the next ; that isn't in quotes.
func (l *line) piece() string {
	begin := l.at
	for l.rest() != "" && l.rest()[0] != ';' {
		if l.rest()[0] == '"' {
			l.at += quote.Size(l.rest())
		} else {
			l.at++
		}
	}
	return l.text[begin:l.at]
}

func (w *writer) plan(p api.Plan) {
	if len(p.Tasks) > api.MaxTasks || len(p.Edges) > api.MaxEdges {
		w.refuse()
		return
	}
	w.line("plan", w.number(p.Cap, 0))
	numbers := names{}
	for _, t := range p.Tasks {
		if numbers.add(t.Name) != nil {
			w.refuse()
			return
		}
		w.task(t)
	}
	for _, e := range p.Edges {
		w.line("edge", w.port(p.Tasks, e.From, e.Out), w.port(p.Tasks, e.To, e.In))
	}
}

func (w *writer) task(t api.Task) {
	kind, follows, ok := wordOf(t.Kind, kinds())
	if !ok || len(t.Exprs) != follows.exprs || follows.numbers == 0 && t.Num != 0 {
		w.refuse()
		return
	}
	var pieces []string
	for _, e := range t.Exprs {
		canon, err := expr.Canon(e)
		if err != nil {
			w.refuse()
		}
		pieces = append(pieces, canon)
	}
	if follows.numbers > 0 {
		pieces = append(pieces, w.number(t.Num, 0))
	}
	words := []string{"task", t.Name, kind}
	if len(pieces) > 0 {
		words = append(words, strings.Join(pieces, " ; "))
	}
	w.line(words...)
}

func (w *writer) port(tasks []api.Task, task, port int) string {
	if task < 0 || task >= len(tasks) {
		w.refuse()
		return ""
	}
	return tasks[task].Name + "." + w.number(port, 0)
}
