package plan

import (
	"errors"
	"strings"

	"eddy/api"
)

// reader takes the lines of a text, one by one, and is told when there are no more.
type reader interface {
	line(l *line) error
	end(last *line) error
}

// read hands a text's lines to r up to the first fault.
func read(text string, most int, r reader) error {
	if len(text) > most {
		return &api.Fault{Err: api.ErrPlanLong}
	}
	var last *line
	for k, s := range strings.Split(text, "\n") {
		last = &line{count: k + 1, text: s}
		last.passBlanks()
		if rest := last.rest(); rest == "" || rest[0] == '#' {
			continue
		}
		if err := r.line(last); err != nil {
			return err
		}
	}
	return r.end(last)
}

// line is a line of a text, read from left to right: at is the place up to which it is read.
type line struct {
	count int
	text  string
	at    int
}

// word is a word and its place. A word that is missing is empty, and its place is the line's end: so whatever refuses the empty word tells the place that is asked for.
type word struct {
	text string
	at   int
}

func (l *line) fault(at int, reason error) error {
	return &api.Fault{Line: l.count, At: at, Err: reason}
}

// moved makes a fault of this line of one that a lower layer tells of a piece that begins at that place; where there is none, it stays so.
func (l *line) moved(err error, begin int) error {
	var f *api.Fault
	if !errors.As(err, &f) {
		return err
	}
	return l.fault(begin+f.At, f.Err)
}

// rest gives what isn't read yet.
func (l *line) rest() string { return l.text[l.at:] }

func (l *line) passBlanks() {
	l.at = len(l.text) - len(strings.TrimLeft(l.rest(), " "))
}

func (l *line) word() word {
	l.passBlanks()
	text, _, _ := strings.Cut(l.rest(), " ")
	w := word{text: text, at: l.at}
	l.at += len(text)
	return w
}

// passes goes past the next word, if it is this one.
func (l *line) passes(text string) bool {
	at := l.at
	if l.word().text == text {
		return true
	}
	l.at = at
	return false
}

// number reads the next word as a number, by plain, signed or times.
func (l *line) number(by func(string) (int, error)) (int, error) {
	w := l.word()
	n, err := by(w.text)
	if err != nil {
		return 0, l.fault(w.at, err)
	}
	return n, nil
}

// more tells whether another word follows.
func (l *line) more() bool {
	l.passBlanks()
	return l.rest() != ""
}

// finish refuses a word behind the last one.
func (l *line) finish() error {
	if w := l.word(); w.text != "" {
		return l.fault(w.at, api.ErrPlanWord)
	}
	return nil
}
