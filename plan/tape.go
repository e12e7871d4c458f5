package plan

import (
	"eddy/api"
	"eddy/quote"
	"eddy/value"
)

type tapeReader struct{ records []api.Record }

func (r *tapeReader) line(l *line) error {
	if len(r.records) == api.MaxTape {
		return l.fault(l.at, api.ErrPlanMany)
	}
	if l.rest()[0] != '"' {
		return l.fault(l.at, api.ErrPlanValue)
	}
	begin := l.at
	key, err := l.value(quote.Size(l.rest()))
	if err != nil {
		return err
	}
	if len(key.Text) > api.MaxKey {
		return l.fault(begin, api.ErrValKey)
	}
	val, err := l.value(len(l.rest()))
	if err != nil {
		return err
	}
	r.records = append(r.records, api.Record{Key: key.Text, Val: val})
	return nil
}

func (r *tapeReader) end(*line) error { return nil }

// value reads the next bytes as a value.
func (l *line) value(size int) (api.Value, error) {
	v, at, reason := value.Parse(l.rest()[:size])
	if reason != api.OK {
		return api.Value{}, l.fault(l.at+at, reason)
	}
	l.at += size
	return v, nil
}

func (w *writer) tape(l []api.Record) {
	if len(l) > api.MaxTape {
		w.refuse()
		return
	}
	for _, r := range l {
		if value.CheckRecord(r) != api.OK || len(r.Loops) > 0 {
			w.refuse()
			return
		}
		w.line(value.Print(api.Value{Kind: api.Text, Text: r.Key}), value.Print(r.Val))
	}
}
