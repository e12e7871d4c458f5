package outlet_test

import (
	"fmt"
	"slices"
	"testing"

	"eddy/api"
	"eddy/equal"
)

// A life is what the outlets of a disk were told, by sink: what stood in the file at the very first, what was handed to a Commit with which number, what a Commit without an error laid down, and what an outside reader found last in the sure bytes.
type life struct {
	first, read map[int][]api.Record
	handed      map[int]map[int][]api.Record
	laid        map[int]map[int]api.Record
}

func lifeOf(files []api.File) *life {
	l := &life{map[int][]api.Record{}, map[int][]api.Record{}, map[int]map[int][]api.Record{}, map[int]map[int]api.Record{}}
	for sink := range api.MaxTasks {
		l.handed[sink], l.laid[sink] = map[int][]api.Record{}, map[int]api.Record{}
	}
	for _, f := range files {
		if sink := sinkOf(f.Name); sink >= 0 {
			l.first[sink], _ = modelScan(f.Data)
			l.read[sink], _ = modelScan(f.Data[:f.Synced])
		}
	}
	return l
}

// commits keeps what a Commit was told.
func (l *life) commits(sink int, c call, err error) {
	for k, r := range c.Recs {
		number := c.From + k
		l.handed[sink][number] = append(l.handed[sink][number], r)
		if err == nil {
			l.laid[sink][number] = r
		}
	}
}

// openFault tells where what was found by an Open isn't as P15.6 says. What it finds is as good as laid down: it is sure.
func (l *life) openFault(sink int, found []api.Record) string {
	for number, r := range found {
		known := number < len(l.first[sink]) && equal.Record(r, l.first[sink][number])
		if !known && !slices.ContainsFunc(l.handed[sink][number], func(h api.Record) bool { return equal.Record(r, h) }) {
			return fmt.Sprint("P15.6: record ", number, " neither stood at the first nor was handed in")
		}
	}
	for number, r := range l.laid[sink] {
		if number >= len(found) || !equal.Record(found[number], r) {
			return fmt.Sprint("P15.6: record ", number, " was laid down, and it is gone or another one")
		}
	}
	for number, r := range found {
		l.laid[sink][number] = r
	}
	return ""
}

// readFault tells where what an outside reader finds in the sure bytes has shrunk or changed.
func (l *life) readFault(sink int, f api.File) string {
	old := l.read[sink]
	found, _ := modelScan(f.Data[:f.Synced])
	if len(found) < len(old) || !equal.Records(found[:len(old)], old) {
		return fmt.Sprint("P15.6: the sure bytes hold ", recsTold(found), " behind ", recsTold(old))
	}
	l.read[sink] = found
	return ""
}

// twins are a system of outlets and one of models that are told the same. Which sink stands at which place, and which of them are older than the last fall: what these answer is free.
type twins struct {
	real, model system
	sinks       map[int]int
	old         map[int]bool
	life        *life  // nil: others write into the files too
	last        answer // of the last call that isn't free
}

func twinsOver(t testing.TB, files []api.File) *twins {
	t.Helper()
	a, b := systems(t, files)
	return &twins{real: a, model: b, sinks: map[int]int{}, old: map[int]bool{}}
}

// stand gives the model at a place; nil, if there is none.
func (w *twins) stand(at int) *model {
	m, _ := w.model.logs[at].(*model)
	return m
}

func (w *twins) isOld(c call) bool {
	return w.old[c.At] && (c.What == "commit" || c.What == "len" || c.What == "records")
}

// oldFault plays a call of an outlet that is older than the last fall: while the machine is down it may not take new records. Behind the Restart nobody calls it: it could write into the file.
func (w *twins) oldFault(c call) string {
	m := w.stand(c.At)
	if !isDown(w.real.Disk) || m == nil {
		return ""
	}
	a := c.of(w.real)
	if c.What == "commit" && len(c.Recs) > 0 && c.From+len(c.Recs) > len(m.rows) && a.Err == nil {
		return "P15, Rules for all calls: while the machine is down a Commit of new records answers no error"
	}
	return ""
}

// step plays a call, and tells what is wrong with its answer or with what is found behind it.
func (w *twins) step(c call) string {
	if w.isOld(c) {
		return w.oldFault(c)
	}
	got, want := c.of(w.real), c.of(w.model)
	w.last = want
	if !same(got, want) {
		return "it answers " + c.told(got) + ", want " + c.told(want)
	}
	files := w.real.Files()
	if model := w.model.Files(); !sameFiles(files, model) {
		return "the files are " + filesTold(files) + ", want " + filesTold(model)
	}
	w.ages(c, got)
	if why := w.heldFault(c); why != "" || w.life == nil {
		return why
	}
	return w.lifeFault(c, got, files)
}

// ages keeps which outlets are there behind a call, and which of them are old.
func (w *twins) ages(c call, got answer) {
	if c.What == "open" && got.Open {
		w.sinks[c.At], w.old[c.At] = c.Sink, false
	}
	if c.What == "restart" || isDown(w.real.Disk) {
		for at := range w.sinks {
			w.old[at] = true
		}
	}
}

// heldFault holds what a call's outlet tells against the model.
func (w *twins) heldFault(c call) string {
	l, there := w.real.logs[c.At]
	if !there || w.old[c.At] {
		return ""
	}
	m := w.stand(c.At)
	if l.Len() != m.Len() || !equal.Records(l.Records(), m.Records()) {
		return "behind it the records are " + recsTold(l.Records()) + ", want " + recsTold(m.Records())
	}
	return ""
}

func (w *twins) lifeFault(c call, got answer, files []api.File) string {
	sink, known := w.sinks[c.At]
	switch {
	case c.What == "commit" && known && w.stand(c.At) != nil:
		w.life.commits(sink, c, got.Err)
	case c.What == "open" && got.Open:
		if why := w.life.openFault(c.Sink, w.real.logs[c.At].Records()); why != "" {
			return why
		}
	}
	for _, f := range files {
		sink := sinkOf(f.Name)
		if sink < 0 {
			continue
		}
		if why := w.life.readFault(sink, f); why != "" {
			return why
		}
	}
	return ""
}

// follow plays a script, and fails the test where something is wrong.
func (w *twins) follow(t *testing.T, script []call) bool {
	t.Helper()
	files := w.real.Files()
	for k, c := range script {
		if why := w.step(c); why != "" {
			t.Errorf("P15.1 to P15.6: files {%s}, %s: %s", filesTold(files), lastOf(script[:k+1]), why)
			return false
		}
	}
	return true
}

// lastOf writes the last calls of a script.
func lastOf(script []call) string {
	return fmt.Sprint(len(script), " calls, the last of them ", script[max(0, len(script)-10):])
}
