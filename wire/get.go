package wire

import (
	"eddy/api"
	"eddy/number"
	"eddy/value"
)

// reader reads bytes from left to right. Once it has failed it reads nothing more and answers zeros, so that a form is read without asking behind each of its pieces; the first error stays.
type reader struct {
	left []byte
	err  api.Errno
}

func (r *reader) fail(e api.Errno) {
	if r.err == api.OK {
		r.err = e
	}
}

// take cuts n bytes off what is left, or none if it fails. Both pieces end where their room ends: nobody who appends to one writes into the caller's bytes.
func (r *reader) take(n int) []byte {
	if n > len(r.left) {
		r.fail(api.ErrWireShort)
	}
	if r.err != api.OK {
		return nil
	}
	taken := r.left[:n:n]
	r.left = r.left[n:len(r.left):len(r.left)]
	return taken
}

// number reads a number of at most bound.
func (r *reader) number(bound int) int {
	n, size, e := number.Lead(r.left, bound)
	if e != api.OK {
		r.fail(e)
	}
	r.take(size)
	if r.err != api.OK {
		return 0
	}
	return n
}

func (r *reader) word() uint32 {
	var w uint32
	for k, b := range r.take(wordBytes) {
		w |= uint32(b) << (byteBits * k)
	}
	return w
}

// first reads the byte with which a form begins.
func (r *reader) first(want byte) {
	if got := r.take(1); len(got) > 0 && got[0] != want {
		r.fail(api.ErrWireForm)
	}
}

func (r *reader) key() string {
	return string(r.take(r.number(api.MaxKey)))
}

// risingKeys gives a way to read keys of which each is above the one ahead of it.
func risingKeys() func(*reader) string {
	last, begun := "", false
	return func(r *reader) string {
		key := r.key()
		if begun && key <= last {
			r.fail(api.ErrWireOrder)
		}
		last, begun = key, true
		return key
	}
}

func (r *reader) value() api.Value {
	if r.err != api.OK {
		return api.Value{}
	}
	v, size, e := value.Decode(r.left)
	if e != api.OK {
		r.fail(e)
		return api.Value{}
	}
	r.take(size)
	return v
}

// readList reads a list of at most bound items, each as item reads it.
func readList[T any](r *reader, bound int, item func(*reader) T) []T {
	count := r.number(bound)
	items := make([]T, 0, count)
	for range count {
		items = append(items, item(r))
		if r.err != api.OK {
			return nil
		}
	}
	return items
}

func (r *reader) hop() int { return r.number(api.MaxHops) }

func (r *reader) record() api.Record {
	var rec api.Record
	rec.Key = r.key()
	rec.Val = r.value()
	rec.Loops = readList(r, api.MaxLoops, (*reader).hop)
	return rec
}

func (r *reader) records() []api.Record {
	return readList(r, api.MaxLog, (*reader).record)
}

// cells reads the cells of a state or of a delta.
func (r *reader) cells() []api.Cell {
	key := risingKeys()
	return readList(r, api.MaxCells, func(r *reader) api.Cell {
		var c api.Cell
		c.Key = key(r)
		c.Vals = readList(r, api.MaxItems, (*reader).value)
		return c
	})
}

func (r *reader) state() api.State {
	var s api.State
	s.Num = r.number(api.MaxNum)
	s.Cells = r.cells()
	return s
}

func (r *reader) delta() api.Delta {
	var d api.Delta
	d.Num = r.number(api.MaxNum)
	d.Set = r.cells()
	d.Gone = readList(r, api.MaxCells, risingKeys())
	return d
}

func (r *reader) segment() api.Segment {
	var s api.Segment
	r.first(segmentByte)
	s.Id = r.number(api.MaxId)
	s.Task = r.number(api.MaxTasks - 1)
	s.Base = r.number(api.MaxId)
	if s.Base == 0 {
		s.State = r.state()
	} else {
		s.BaseSum = r.word()
		s.Delta = r.delta()
	}
	s.Logs = readList(r, api.MaxPorts, (*reader).records)
	s.Pend = r.records()
	return s
}

func (r *reader) manifest() api.Manifest {
	var m api.Manifest
	r.first(manifestByte)
	m.Id = r.number(api.MaxId)
	m.Sum = r.word()
	m.Rows = readList(r, api.MaxTasks, (*reader).fileRow)
	return m
}

func (r *reader) fileRow() api.Row {
	var row api.Row
	row.Size = r.number(api.MaxFile)
	row.Check = r.word()
	return row
}

func (r *reader) row() api.OutRow {
	var row api.OutRow
	r.first(rowByte)
	row.At = r.number(api.MaxNum)
	row.Rec = r.record()
	return row
}
