package outlet_test

import (
	"errors"
	"slices"
	"strings"
	"sync"
	"testing"
	"unsafe"

	"eddy/api"
	"eddy/equal"
	"eddy/memory"
	"eddy/outlet"
	"eddy/pen"
)

const rules = "P15, Rules for all calls"

// lent gives a text in bytes of its own, which can be written over afterwards.
func lent(s string) string {
	b := []byte(s)
	return unsafe.String(unsafe.SliceData(b), len(b))
}

// roomy gives the call with records that can be written over as a whole.
func (c call) roomy() call {
	c.Recs = memory.Roomy(c.Recs, lent)
	return c
}

// writeOver writes over all that a roomy call has handed in, its texts too.
func (c call) writeOver() {
	m := memory.Of(c.Recs)
	for _, s := range m.Texts() {
		pen.Fill([][]byte{unsafe.Slice(unsafe.StringData(s), len(s))}, '#')
	}
	m.Scribble()
}

// TestWhatIsHandedInStays: no Commit, a right one or not, changes anything of it, the spare room neither; and no list that is answered shares memory with another one, handed in or answered.
func TestWhatIsHandedInStays(t *testing.T) {
	for seed := range 250 {
		w := seeded(seed, false)
		s := twinsOver(t, w.files())
		var all []any
		for range 50 {
			c := w.call(s)
			given := c.roomy()
			before := memory.Of(given.Recs).Told()
			if why := s.step(given); why != "" {
				t.Fatalf("%s: seed %d: %v: %s", rules, seed, c, why)
			}
			if memory.Of(given.Recs).Told() != before {
				t.Fatalf("%s: seed %d: %v changes what it is handed, or the spare room behind it", rules, seed, c)
			}
			all = append(all, given.Recs)
			if l := s.real.logs[c.At]; l != nil {
				all = append(all, l.Records())
			}
		}
		if !memory.Of(all...).Apart() {
			t.Fatalf("%s: seed %d: a list that is answered shares memory with another one", rules, seed)
		}
	}
}

// TestNothingIsKept: behind each call all that was handed in, its texts too, and all that was answered is written over.
func TestNothingIsKept(t *testing.T) {
	for seed := range 400 {
		w := seeded(seed, seed%2 == 0)
		s := twinsOver(t, w.files())
		for range 60 {
			c := w.call(s)
			if s.isOld(c) {
				continue
			}
			given := c.roomy()
			got, want := given.of(s.real), c.of(s.model)
			given.writeOver()
			if !same(got, want) {
				t.Fatalf("%s: seed %d: %v answers %s, want %s: what was handed in or answered before has been written over", rules, seed, c, c.told(got), c.told(want))
			}
			memory.Of(got.Recs).Scribble()
			s.ages(c, got)
			if why := s.heldFault(c); why != "" {
				t.Fatalf("%s: seed %d: %v: what was handed in or answered before has been written over: %s", rules, seed, c, why)
			}
			if l := s.real.logs[c.At]; l != nil {
				memory.Of(l.Records()).Scribble()
			}
		}
	}
}

// TestAnswersCanBeAppendedTo: what is appended to one list of an answer is seen in no other one, and what is written into it neither.
func TestAnswersCanBeAppendedTo(t *testing.T) {
	for seed := range 200 {
		p := pen.Seeded(seed)
		want := p.Records(p.Between(1, 20), api.MaxLoops)
		o := opened(t, newDisk(t, nil), 0)
		o.Commit(0, want)
		found, _ := outlet.Scan(logOf(0, want))
		answers := [][]api.Record{o.Records(), found, o.Records(), opened(t, newDisk(t, []api.File{{Name: "out-01", Data: logOf(0, want)}}), 1).Records()}
		for _, a := range answers {
			memory.Of(a).Extend()
		}
		for _, a := range answers {
			if !equal.Records(a, want) {
				t.Fatalf("%s: seed %d: what is appended to a list of an answer is seen in another one", rules, seed)
			}
		}
		if !memory.Of(answers[0], answers[1], answers[2], answers[3]).Apart() || !equal.Records(o.Records(), want) {
			t.Fatalf("%s: seed %d: lists of answers share memory", rules, seed)
		}
	}
}

// TestTheBytesOfAScan: they aren't changed, nor the room behind them, and what was found doesn't change with them.
func TestTheBytesOfAScan(t *testing.T) {
	for seed := range 300 {
		p := pen.Seeded(seed)
		l := p.Records(p.Between(1, 6), api.MaxLoops)
		log, _ := mangled(p, l)
		given := append(slices.Clone(log), 9, 8, 7, 6, 5, 4, 3, 2, 1, 0)
		before := slices.Clone(given)
		data := given[:len(log)]
		found, n := outlet.Scan(data)
		want, _ := modelScan(log)
		if !slices.Equal(given, before) {
			t.Fatalf("%s: seed %d: Scan changes its bytes, or the room behind them", rules, seed)
		}
		for k := range given {
			given[k] ^= 255
		}
		if n > len(log) || !equal.Records(found, want) {
			t.Fatalf("%s: seed %d: what Scan found changes with the bytes", rules, seed)
		}
	}
}

// TestOneListHandedInTwice: what is one list in the arguments is not one in the answers.
func TestOneListHandedInTwice(t *testing.T) {
	val := api.Value{Kind: api.List, Items: []api.Value{{Kind: api.Int, Int: 1}}}
	r := api.Record{Key: "a", Val: api.Value{Kind: api.List, Items: []api.Value{val, val}}, Loops: []int{1}}
	l := []api.Record{r, r, r}
	before := memory.Of(l).Told()
	d := newDisk(t, nil)
	o := opened(t, d, 0)
	for _, from := range []int{0, 3, 1, 2} {
		if err := o.Commit(from, l); err != nil {
			t.Fatalf("P15.4: Commit(%d) of one record three times: %v", from, err)
		}
	}
	want := slices.Repeat(l, 2)
	found, _ := outlet.Scan(fileOf(d, 0).Data)
	a, b := o.Records(), opened(t, d, 0).Records()
	if !equal.Records(a, want) || !equal.Records(b, want) || !equal.Records(found, want) {
		t.Errorf("%s: one record six times is %s", rules, recsTold(a))
	}
	if !memory.Of(a, b, found).Apart() || memory.Of(l).Told() != before {
		t.Errorf("%s: lists of the answers share memory with one another or with what was handed in", rules)
	}
}

// TestNilAndEmptyAreTheSame: as each list that is handed in.
func TestNilAndEmptyAreTheSame(t *testing.T) {
	spare := rec('c')
	values, loops, lists := [][]api.Value{nil, {}, spare.Val.Items[:0]}, [][]int{nil, {}, spare.Loops[:0]}, [][]api.Record{nil, {}, recs("c")[:0]}
	for k := range 3 {
		one := []api.Record{{Loops: loops[k]}, {Key: "l", Val: api.Value{Kind: api.List, Items: values[k]}, Loops: loops[k]}, {Key: "i", Val: api.Value{Kind: api.Int, Int: 3, Items: values[k]}}}
		d := newDisk(t, nil)
		o := opened(t, d, 0)
		if a, b := o.Commit(0, lists[k]), o.Commit(0, one); a != nil || b != nil {
			t.Errorf("%s: Commits of lists that are nil, empty or roomy answer %v, %v", rules, a, b)
		}
		for n := range 3 {
			other := []api.Record{{Loops: loops[n]}, {Key: "l", Val: api.Value{Kind: api.List, Items: values[n]}, Loops: loops[n]}, {Key: "i", Val: api.Value{Kind: api.Int, Int: 3, Items: values[n]}}}
			if a, b, c := o.Commit(0, other), errorTold(o.Commit(4, lists[n])), opened(t, d, 0).Commit(0, other); a != nil || b != "gap out-00" || c != nil {
				t.Errorf("%s: records with lists that are nil, empty or roomy: Commit answers %v, %s, %v", rules, a, b, c)
			}
		}
		if got := o.Records(); !equal.Records(got, one) || !memory.Of(got, values[2], loops[2], lists[2]).Apart() {
			t.Errorf("%s: the records are %s", rules, recsTold(got))
		}
	}
	for _, data := range [][]byte{nil, {}, logBytes("a")[:0]} {
		if l, n := outlet.Scan(data); len(l) != 0 || n != 0 {
			t.Errorf("P15.1: Scan of no bytes answers %d records, %d bytes", len(l), n)
		}
	}
}

// TestFarBeyondTheLimits: what is far from valid is refused, and nothing panics.
func TestFarBeyondTheLimits(t *testing.T) {
	long := strings.Repeat("far beyond", 1<<17)
	deep := pen.Deep(1<<16 - 2)
	for _, c := range []struct {
		r api.Record
		e api.Errno
	}{
		{api.Record{Key: long}, api.ErrValKey}, {api.Record{Val: deep}, api.ErrValDepth}, {api.Record{Val: api.Value{Kind: api.Text, Text: long}}, api.ErrValText},
		{api.Record{Val: api.Value{Kind: api.List, Items: make([]api.Value, 1<<16)}}, api.ErrValItems}, {api.Record{Loops: make([]int, 1<<16)}, api.ErrValLoops}, {api.Record{Val: api.Value{Kind: -5}}, api.ErrValKind},
	} {
		d := newDisk(t, filesOf("out-00: a"))
		o := opened(t, d, 0)
		for from, want := range []api.Errno{api.ErrOutClash, c.e, api.ErrOutGap} {
			if err := o.Commit(from, []api.Record{c.r, c.r}); !errors.Is(err, want) || filesTold(d.Files()) != "out-00: a" || recsTold(o.Records()) != "a" {
				t.Errorf("%s: Commit(%d) of what is far beyond the limits answers %v, want error %d", rules, from, err, want)
			}
		}
	}
	// Many that are valid, but have no room; and one behind them that isn't.
	d := newDisk(t, nil)
	o := opened(t, d, 0)
	many := make([]api.Record, 1<<18)
	if got := errorTold(o.Commit(0, many)); got != "full out-00" || len(d.Files()) != 0 {
		t.Errorf("P15.4.3: Commit of very many records answers %s", got)
	}
	many[len(many)-1].Key = long
	if got := errorTold(o.Commit(0, many)); got != "error 24 out-00" {
		t.Errorf("P15.4.2: Commit of very many records, the last of which isn't valid, answers %s", got)
	}
}

// TestErrorsAreNewMemory: an error that is written over is no other one.
func TestErrorsAreNewMemory(t *testing.T) {
	d := newDisk(t, filesOf("out-00: a"))
	o := opened(t, d, 0)
	for range 3 {
		_, refused := outlet.Open(d, 12)
		for k, err := range []error{o.Commit(5, nil), o.Commit(0, recs("b")), refused, o.Commit(1, recs("K"))} {
			if got, want := errorTold(err), []string{"gap out-00", "clash out-00", "no sink", "error 24 out-00"}[k]; got != want {
				t.Fatalf("P15, The face: it answers %s, want %s", got, want)
			}
			var l *api.Lost
			if errors.As(err, &l) {
				*l = api.Lost{Id: 4711, Name: "scribbled", Err: api.OK}
			}
		}
	}
}

// TestOutletsAtTheSameTime: each has a disk and a goroutine of its own, and all are handed the same records and scan the same bytes.
func TestOutletsAtTheSameTime(t *testing.T) {
	l := pen.Seeded(5).Records(60, api.MaxLoops)
	log := logOf(0, l)
	var all sync.WaitGroup
	for n := range 16 {
		d := newDisk(t, nil)
		all.Go(func() {
			o, _ := outlet.Open(d, n%12)
			for k := range l {
				if err := o.Commit(k/2, l[k/2:k+1]); err != nil {
					t.Errorf("%s: Commit answers %v", rules, err)
				}
			}
			found, size := outlet.Scan(log)
			if string(fileOf(d, n%12).Data) != string(log) || size != len(log) || !equal.Records(found, o.Records()) {
				t.Errorf("%s: the same records give another log", rules)
			}
		})
	}
	all.Wait()
}
