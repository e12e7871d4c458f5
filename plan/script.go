package plan

import (
	"slices"

	"eddy/api"
)

// scriptReader reads a script's lines. steps has those of all open blocks, one behind the other, their ended repeats unfolded.
type scriptReader struct {
	steps []api.Op
	open  []repeat
}

// repeat is a repeat whose end isn't read yet: its steps begin at the place begin. unended is the fault that it is, if no end comes.
type repeat struct {
	begin, times int
	unended      error
}

func (r *scriptReader) line(l *line) error {
	first := l.word()
	switch first.text {
	case "repeat":
		return r.openRepeat(l, first)
	case "end":
		return r.closeRepeat(l, first)
	}
	step, err := l.step(first)
	if err != nil {
		return err
	}
	return r.add(l, first, []api.Op{step}, 1)
}

func (r *scriptReader) end(*line) error {
	if n := len(r.open); n > 0 {
		return r.open[n-1].unended
	}
	return nil
}

func (r *scriptReader) openRepeat(l *line, first word) error {
	n, err := l.number(times)
	if err != nil {
		return err
	}
	r.open = append(r.open, repeat{len(r.steps), n, l.fault(first.at, api.ErrPlanEnd)})
	return l.finish()
}

func (r *scriptReader) closeRepeat(l *line, first word) error {
	n := len(r.open)
	if n == 0 {
		return l.fault(first.at, api.ErrPlanEnd)
	}
	if err := l.finish(); err != nil {
		return err
	}
	last := r.open[n-1]
	body := r.steps[last.begin:]
	r.open, r.steps = r.open[:n-1], r.steps[:last.begin]
	return r.add(l, first, body, last.times)
}

// add lays steps, so many times, at the end of the innermost block. How many there would be is looked at first: it may be millions.
func (r *scriptReader) add(l *line, first word, body []api.Op, times int) error {
	begin := 0
	if n := len(r.open); n > 0 {
		begin = r.open[n-1].begin
	}
	if len(r.steps)-begin+len(body)*times > api.MaxScript {
		return l.fault(first.at, api.ErrPlanMany)
	}
	r.steps = append(r.steps, slices.Repeat(body, times)...)
	return nil
}

// unfolded gives the steps. Up to here those that come of one line share its list.
func (r *scriptReader) unfolded() []api.Op {
	for k, op := range r.steps {
		r.steps[k].Keep = append([]int(nil), op.Keep...)
	}
	return r.steps
}

// step reads what follows the first word of a step.
func (l *line) step(first word) (api.Op, error) {
	follows, ok := steps()[first.text]
	if !ok {
		return api.Op{}, l.fault(first.at, api.ErrPlanWord)
	}
	op := api.Op{Kind: follows.kind}
	var err error
	for _, field := range []*int{&op.A, &op.B}[:follows.numbers] {
		if *field, err = l.number(signed); err != nil {
			return api.Op{}, err
		}
	}
	switch op.Kind {
	case api.OpFail:
		err = l.after(&op)
	case api.OpRecover:
		err = l.recovery(&op)
	}
	if err != nil {
		return api.Op{}, err
	}
	return op, l.finish()
}

// after reads what may follow the number of a fail.
func (l *line) after(op *api.Op) (err error) {
	if l.passes("after") {
		op.B, err = l.number(signed)
	}
	return err
}

// recovery reads what may follow the word recover.
func (l *line) recovery(op *api.Op) error {
	if l.passes("arm") {
		units, err := l.number(plain)
		if err != nil {
			return err
		}
		op.A = units + 1
	}
	for l.more() {
		n, err := l.number(signed)
		if err != nil {
			return err
		}
		op.Keep = append(op.Keep, n)
	}
	return nil
}

func (w *writer) script(l []api.Op) {
	if len(l) > api.MaxScript {
		w.refuse()
		return
	}
	for len(l) > 0 {
		step := w.step(l[0])
		if w.refused {
			return
		}
		run := 1
		for run < len(l) && isSame(l[run], l[0]) {
			run++
		}
		w.run(step, run)
		l = l[run:]
	}
}

func isSame(a, b api.Op) bool {
	return a.Kind == b.Kind && a.A == b.A && a.B == b.B && slices.Equal(a.Keep, b.Keep)
}

// run writes a step so many times.
func (w *writer) run(step []string, times int) {
	if times < 3 {
		for range times {
			w.line(step...)
		}
		return
	}
	w.line("repeat", w.number(times, 1))
	w.line(step...)
	w.line("end")
}

// step gives a step's words. A field that is written is cleared: what is left in the others can't be told.
func (w *writer) step(op api.Op) []string {
	first, follows, ok := wordOf(op.Kind, steps())
	words := []string{first}
	for _, field := range []*int{&op.A, &op.B}[:follows.numbers] {
		words = append(words, w.number(*field, -maxNumber))
		*field = 0
	}
	switch {
	case op.Kind == api.OpFail && op.B != 0:
		words = append(words, "after", w.number(op.B, -maxNumber))
		op.B = 0
	case op.Kind == api.OpRecover:
		words = append(words, w.recovery(op)...)
		op.A, op.Keep = 0, nil
	}
	if !ok || op.A != 0 || op.B != 0 || len(op.Keep) > 0 {
		w.refuse()
	}
	return words
}

func (w *writer) recovery(op api.Op) []string {
	var words []string
	if op.A != 0 {
		words = append(words, "arm", w.number(op.A-1, 0))
	}
	// A list that is too long anyway isn't gone through: a script may have it in every step.
	if len(op.Keep) > w.most {
		w.refuse()
		return nil
	}
	for _, n := range op.Keep {
		words = append(words, w.number(n, -maxNumber))
	}
	return words
}
