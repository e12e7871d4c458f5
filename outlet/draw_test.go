package outlet_test

import (
	"fmt"
	"math"
	"slices"

	"eddy/api"
	"eddy/pen"
	"eddy/wire"
)

// A writer draws files and calls; no two of its records are the same.
type writer struct {
	*pen.Pen
	made  int
	sinks []int
	wild  bool // others write into the files too, and two outlets may be those of one sink
	next  []call
}

func seeded(seed int, wild bool) *writer {
	w := &writer{Pen: pen.Seeded(seed), wild: wild}
	w.sinks = w.Order(api.MaxTasks)[:w.Between(1, 3)]
	return w
}

// record draws a valid record.
func (w *writer) record() api.Record {
	r := w.Record(api.MaxLoops)
	w.made++
	r.Key = fmt.Sprint("r", w.made)
	return r
}

func (w *writer) records(most int) []api.Record {
	var all []api.Record
	for range w.Below(most + 1) {
		all = append(all, w.record())
	}
	return all
}

// wrong draws a record that isn't valid.
func (w *writer) wrong() api.Record { return rec(pen.One(w.Pen, "KZTIDL"[w.Below(6)], 'K')) }

func (w *writer) sink() int { return w.sinks[w.Below(len(w.sinks))] }

// place draws a place: as a rule the sink itself.
func (w *writer) place(sink int) int {
	if w.wild && w.Below(3) == 0 {
		return 20 + w.Below(2)
	}
	return sink
}

// files draws what lies on a disk at the very first: logs, whole or not, sure or not, and other files.
func (w *writer) files() []api.File {
	var all []api.File
	for _, sink := range w.sinks {
		if w.Below(3) == 0 {
			continue
		}
		f := api.File{Name: nameOf(sink), Data: logOf(0, w.records(3))}
		if w.Below(2) == 0 {
			next := logOf(w.Below(4), []api.Record{w.record()})
			f.Data = append(f.Data, next[:w.Below(len(next)+1)]...)
		}
		f.Synced = pen.One(w.Pen, len(f.Data), w.Below(len(f.Data)+1))
		all = append(all, f)
	}
	if w.Below(2) == 0 {
		all = append(all, api.File{Name: "other", Data: []byte{1, 2, 3}, Synced: w.Below(4)})
	}
	return all
}

// pick draws one of the places at which there is an outlet that isn't older than the last fall; false, if there is none.
func (w *writer) pick(s *twins) (int, bool) {
	var all []int
	for at := range s.sinks {
		if s.stand(at) != nil && !s.old[at] {
			all = append(all, at)
		}
	}
	if len(all) == 0 {
		return 0, false
	}
	slices.Sort(all)
	return all[w.Below(len(all))], true
}

// commit draws a Commit to a place: in most cases of records that stand, as they stand, and of new ones.
func (w *writer) commit(s *twins, at int) call {
	m := s.stand(at)
	if m == nil {
		return call{What: "commit", At: at}
	}
	stand, _ := modelScan(m.log)
	from := pen.One(w.Pen, len(stand), len(stand), w.Below(len(stand)+1), max(0, len(stand)-2))
	l := slices.Clone(stand[from:pen.One(w.Pen, len(stand), w.Between(from, len(stand)))])
	if from+len(l) == len(stand) {
		l = append(l, w.records(3)...)
	}
	switch n := w.Below(24); {
	case n < 2:
		from = pen.One(w.Pen, -1, len(stand)+1, len(stand)+1, math.MinInt, math.MaxInt)
	case n < 5 && len(l) > 0:
		l[w.Below(len(l))] = w.record()
	case n < 7:
		l = append(l, w.wrong())
	case n < 8 && len(l) > 0:
		l[w.Below(len(l))] = w.wrong()
	}
	return call{What: "commit", At: at, From: from, Recs: l}
}

// tampered draws something that someone else does to a file.
func (w *writer) tampered() call {
	c := call{What: pen.One(w.Pen, "lay", "lay", "trim", "remove", "spoil"), Name: nameOf(w.sink())}
	switch c.What {
	case "lay":
		c.Data = logOf(w.Below(4), []api.Record{w.record()})
		c.Data = c.Data[:pen.One(w.Pen, len(c.Data), w.Below(len(c.Data)))]
	case "trim":
		c.Nums = []int{w.Below(100)}
	case "spoil":
		c.Nums = []int{w.Below(600)}
	}
	return c
}

// fault draws something that goes wrong, at once or a little later.
func (w *writer) fault() call {
	switch w.Below(9) {
	case 0:
		return call{What: "crash"}
	case 1, 2, 3:
		return call{What: "arm", Nums: []int{pen.One(w.Pen, w.Below(3), w.Below(60), w.Below(200))}}
	}
	return call{What: "fail", Nums: []int{w.Below(3), w.Between(1, 2)}}
}

// aimed draws a fault that meets a Commit: the machine falls in its Append or in its Sync, or one of these fails. The Commit is the next call.
func (w *writer) aimed(s *twins, at int) call {
	c := w.commit(s, at)
	stand := len(s.stand(at).rows)
	size := 0
	for k, r := range c.Recs {
		if _, e := wire.PutRecord(r); e == api.OK && c.From >= 0 && c.From+k >= stand {
			size += len(frameOf(rowOf(c.From+k, r)))
		}
	}
	w.next = []call{c}
	if w.Below(2) == 0 {
		return call{What: "fail", Nums: []int{w.Below(2), 1}}
	}
	appended := size + 1
	if size == 0 {
		appended = 0
	}
	return call{What: "arm", Nums: []int{max(0, appended-w.Below(2)*w.Below(9))}}
}

func (w *writer) restart() call {
	return call{What: "restart", Nums: []int{w.Below(30), w.Below(100), 1 << 20, 0}[:w.Below(5)]}
}

// open draws an Open, in most cases of a sink that may be; at times with a fault ahead of it.
func (w *writer) open() call {
	sink := w.sink()
	if w.Below(12) == 0 {
		sink = pen.One(w.Pen, -1, 12, math.MinInt, math.MaxInt)
	}
	c := call{What: "open", Sink: sink, At: w.place(sink)}
	if w.Below(4) > 0 {
		return c
	}
	w.next = []call{c}
	return pen.One(w.Pen, call{What: "fail", Nums: []int{w.Below(2), 1}}, call{What: "arm", Nums: []int{w.Below(2)}})
}

// call draws a call of twins.
func (w *writer) call(s *twins) call {
	if isDown(s.real.Disk) && w.Below(3) > 0 {
		w.next = nil
		return w.restart()
	}
	if len(w.next) > 0 {
		c := w.next[0]
		w.next = w.next[1:]
		return c
	}
	at, there := w.pick(s)
	// What isn't sure is so for a short time only, and much can happen then.
	if there && s.stand(at).Len() < len(s.stand(at).rows) && w.Below(2) == 0 {
		return w.aimed(s, at)
	}
	switch n := w.Below(20); {
	case n < 1:
		return w.restart()
	case n < 2 && w.wild:
		return w.tampered()
	case n < 5:
		return w.fault()
	case n < 8 || !there && n < 16:
		return w.open()
	case !there:
		return w.commit(s, w.place(w.sink()))
	case n < 12:
		return w.aimed(s, at)
	case n < 13:
		return call{What: pen.One(w.Pen, "len", "records", "files"), At: at}
	}
	return w.commit(s, at)
}
