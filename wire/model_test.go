package wire_test

import (
	"bytes"
	"cmp"
	"slices"

	"eddy/api"
	"eddy/value"
)

// This file reads the chapter a second time, in another way than the program: a form is a function that answers what is left behind it, and the things that are not fit are told by a row of questions.

// A form reads itself off the front of b: what is left, and the first error.
type form func(b []byte) ([]byte, api.Errno)

// groups gives the number's bytes as P4.1 takes them, and what is left.
func groups(b []byte) ([]byte, []byte) {
	five := b[:min(5, len(b))]
	n := slices.IndexFunc(five, func(x byte) bool { return x < 0x80 }) + 1
	if n == 0 {
		n = len(five)
	}
	return b[:n], b[n:]
}

// number reads a number and tells it.
func number(b []byte, bound int) (int, []byte, api.Errno) {
	taken, left := groups(b)
	all := len(taken) == 0 || taken[len(taken)-1] >= 0x80
	switch {
	case all && len(taken) == 5:
		return 0, nil, api.ErrWireForm
	case all:
		return 0, nil, api.ErrWireShort
	case len(taken) > 1 && taken[len(taken)-1] == 0:
		return 0, nil, api.ErrWireForm
	}
	n := 0
	for _, x := range slices.Backward(taken) {
		n = n*128 + int(x)%128
	}
	if n > bound {
		return 0, nil, api.ErrWireBound
	}
	return n, left, api.OK
}

func numberForm(bound int) form {
	return func(b []byte) ([]byte, api.Errno) {
		_, left, e := number(b, bound)
		return left, e
	}
}

func sized(n int) form {
	return func(b []byte) ([]byte, api.Errno) {
		if len(b) < n {
			return nil, api.ErrWireShort
		}
		return b[n:], api.OK
	}
}

func byteForm(x byte) form {
	return func(b []byte) ([]byte, api.Errno) {
		if len(b) == 0 {
			return nil, api.ErrWireShort
		}
		if b[0] != x {
			return nil, api.ErrWireForm
		}
		return b[1:], api.OK
	}
}

func keyForm(b []byte) ([]byte, api.Errno) {
	n, left, e := number(b, 12)
	if e != api.OK {
		return nil, e
	}
	return sized(n)(left)
}

func valueForm(b []byte) ([]byte, api.Errno) {
	_, n, e := value.Decode(b)
	if e != api.OK {
		return nil, e
	}
	return b[n:], api.OK
}

// row reads one form behind the other.
func row(forms ...form) form {
	return func(b []byte) ([]byte, api.Errno) {
		for _, f := range forms {
			left, e := f(b)
			if e != api.OK {
				return nil, e
			}
			b = left
		}
		return b, api.OK
	}
}

// many reads a list; of an item its key, and what stands behind it. With rise the keys must rise.
func many(bound int, key, rest form, rise bool) form {
	return func(b []byte) ([]byte, api.Errno) {
		n, b, e := number(b, bound)
		if e != api.OK {
			return nil, e
		}
		var last []byte
		for k := range n {
			left, e := key(b)
			if e != api.OK {
				return nil, e
			}
			this := b[:len(b)-len(left)]
			if rise && k > 0 && bytes.Compare(last[1:], this[1:]) >= 0 {
				return nil, api.ErrWireOrder
			}
			last = this
			if b, e = rest(left); e != api.OK {
				return nil, e
			}
		}
		return b, api.OK
	}
}

func nothing(b []byte) ([]byte, api.Errno) { return b, api.OK }

func recordForm() form {
	return row(keyForm, valueForm, many(3, numberForm(9), nothing, false))
}

func recordsForm() form { return many(256, recordForm(), nothing, false) }

func cellsForm() form {
	return many(64, keyForm, many(6, valueForm, nothing, false), true)
}

func stateForm() form { return row(numberForm(1<<30), cellsForm()) }

func segmentForm() form {
	return func(b []byte) ([]byte, api.Errno) {
		b, e := row(byteForm(83), numberForm(9999), numberForm(11))(b)
		if e != api.OK {
			return nil, e
		}
		base, b, e := number(b, 9999)
		if e != api.OK {
			return nil, e
		}
		kept := stateForm()
		if base > 0 {
			kept = row(sized(4), numberForm(1<<30), cellsForm(), many(64, keyForm, nothing, true))
		}
		return row(kept, many(4, recordsForm(), nothing, false), recordsForm())(b)
	}
}

func manifestForm() form {
	return row(byteForm(77), numberForm(9999), sized(4), many(12, row(numberForm(65536), sized(4)), nothing, false))
}

func rowForm() form { return row(byteForm(79), numberForm(1<<30), recordForm()) }

// verdict tells what a Get of the form answers of b.
func verdict(f form, b []byte) api.Errno {
	left, e := f(b)
	if e == api.OK && len(left) > 0 {
		return api.ErrWireMore
	}
	return e
}

// layNumber writes a number by division, the lowest group first.
func layNumber(n int) []byte {
	if n < 128 {
		return []byte{byte(n)}
	}
	return append([]byte{byte(128 + n%128)}, layNumber(n/128)...)
}

func layWord(w uint32) []byte {
	return []byte{byte(w % 256), byte(w / 256 % 256), byte(w / 65536 % 256), byte(w / 16777216)}
}

func layKey(key string) []byte { return append(layNumber(len(key)), key...) }

func layAll[T any](items []T, lay func(T) []byte) []byte {
	b := layNumber(len(items))
	for _, item := range items {
		b = append(b, lay(item)...)
	}
	return b
}

func layRecord(r api.Record) []byte {
	return join(layKey(r.Key), value.Encode(r.Val), layAll(r.Loops, layNumber))
}

func layRecords(records []api.Record) []byte { return layAll(records, layRecord) }

func layCell(c api.Cell) []byte { return join(layKey(c.Key), layAll(c.Vals, value.Encode)) }

func layState(s api.State) []byte { return join(layNumber(s.Num), layAll(s.Cells, layCell)) }

func layDelta(d api.Delta) []byte {
	return join(layNumber(d.Num), layAll(d.Set, layCell), layAll(d.Gone, layKey))
}

func laySegment(s api.Segment) []byte {
	head := join([]byte{83}, layNumber(s.Id), layNumber(s.Task), layNumber(s.Base))
	tail := join(layAll(s.Logs, layRecords), layRecords(s.Pend))
	if s.Base == 0 {
		return join(head, layState(s.State), tail)
	}
	return join(head, layWord(s.BaseSum), layDelta(s.Delta), tail)
}

func layManifest(m api.Manifest) []byte {
	return join([]byte{77}, layNumber(m.Id), layWord(m.Sum), layAll(m.Rows, func(r api.Row) []byte { return join(layNumber(r.Size), layWord(r.Check)) }))
}

func layRow(r api.OutRow) []byte { return join([]byte{79}, layNumber(r.At), layRecord(r.Rec)) }

// A question has an error for its answer yes.
type question struct {
	yes bool
	err api.Errno
}

// firstOf gives the error of the first question that is answered yes.
func firstOf(questions []question) api.Errno {
	for _, q := range questions {
		if q.yes {
			return q.err
		}
	}
	return api.OK
}

func outside(n, bound int) bool { return n != min(max(n, 0), bound) }

func found(e api.Errno) question { return question{e != api.OK, e} }

func recordFault(r api.Record) api.Errno { return value.CheckRecord(r) }

func stateFault(s api.State) api.Errno { return value.CheckState(s) }

func recordQuestions(records []api.Record) []question {
	all := []question{{len(records) > 256, api.ErrWireBound}}
	for _, r := range records {
		all = append(all, found(value.CheckRecord(r)))
	}
	return all
}

func deltaQuestions(d api.Delta) []question {
	all := []question{found(value.CheckState(api.State{Num: d.Num, Cells: d.Set})), {len(d.Gone) > 64, api.ErrWireBound}}
	for k, key := range d.Gone {
		all = append(all, question{len(key) > 12, api.ErrValKey}, question{k > 0 && cmp.Compare(d.Gone[max(k, 1)-1], key) >= 0, api.ErrWireOrder})
	}
	return all
}

func segmentFault(s api.Segment) api.Errno {
	all := []question{
		{outside(s.Id, 9999) || outside(s.Task, 11) || outside(s.Base, 9999), api.ErrWireBound},
		{s.Base == 0 && (s.BaseSum != 0 || !same(s.Delta, api.Delta{})), api.ErrWireForm},
		{s.Base > 0 && !same(s.State, api.State{}), api.ErrWireForm},
	}
	if s.Base == 0 {
		all = append(all, found(value.CheckState(s.State)))
	} else {
		all = append(all, deltaQuestions(s.Delta)...)
	}
	all = append(all, question{len(s.Logs) > 4, api.ErrWireBound})
	for _, log := range append(slices.Clone(s.Logs), s.Pend) {
		all = append(all, recordQuestions(log)...)
	}
	return firstOf(all)
}

func manifestFault(m api.Manifest) api.Errno {
	all := []question{{outside(m.Id, 9999) || len(m.Rows) > 12, api.ErrWireBound}}
	for _, r := range m.Rows {
		all = append(all, question{outside(r.Size, 65536), api.ErrWireBound})
	}
	return firstOf(all)
}

func rowFault(r api.OutRow) api.Errno {
	return firstOf([]question{{outside(r.At, 1<<30), api.ErrWireBound}, found(value.CheckRecord(r.Rec))})
}
