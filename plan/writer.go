package plan

import (
	"strconv"
	"strings"

	"eddy/api"
)

// writer writes lines, up to most bytes. Once something cannot be written, it writes nothing any more.
type writer struct {
	most    int
	out     []byte
	refused bool
}

func (w *writer) refuse() { w.refused = true }

// line writes a line of words.
func (w *writer) line(words ...string) {
	if w.refused {
		return
	}
	w.out = append(w.out, strings.Join(words, " ")...)
	w.out = append(w.out, '\n')
	if len(w.out) > w.most {
		w.refuse()
	}
}

// number gives a number's word, if it is one from least to maxNumber.
func (w *writer) number(n, least int) string {
	if n < least || n > maxNumber {
		w.refuse()
	}
	return strconv.Itoa(n)
}

func (w *writer) text() (string, error) {
	if w.refused {
		return "", &api.Fault{Err: api.ErrPlanPrint}
	}
	return string(w.out), nil
}
