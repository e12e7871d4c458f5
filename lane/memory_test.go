package lane_test

import (
	"cmp"
	"math/rand"
	"runtime"
	"slices"
	"strconv"
	"strings"
	"testing"
	"unsafe"

	"eddy/api"
	"eddy/pen"
)

// lent gives a text in bytes of its own, which can be written over afterwards.
func lent(s string) string {
	b := []byte(s)
	return unsafe.String(unsafe.SliceData(b), len(b))
}

func roomyValue(v api.Value) api.Value {
	v.Text, v.Items = lent(v.Text), pen.Roomy(v.Items, text("spare"), roomyValue)
	return v
}

func roomyRecord(r api.Record) api.Record {
	r.Key, r.Val = lent(r.Key), roomyValue(r.Val)
	r.Loops = pen.Roomy(r.Loops, 77, pen.Plain)
	return r
}

func roomyItem(x api.Item) api.Item {
	x.Rec = roomyRecord(x.Rec)
	return x
}

// roomy gives the call with arguments that scribble can write over as a whole.
func (c call) roomy() call {
	c.items = pen.Roomy(c.items, item("spare"), roomyItem)
	c.records = pen.Roomy(c.records, rec("spare"), roomyRecord)
	return c
}

// A memory is all that hangs on something: its lists with their spare room, and its texts.
type memory struct {
	items   [][]api.Item
	records [][]api.Record
	values  [][]api.Value
	loops   [][]int
	texts   []string
}

func (m *memory) addItems(all []api.Item) {
	m.items = append(m.items, all[:cap(all)])
	for _, x := range all {
		m.addRecord(x.Rec)
	}
}

func (m *memory) addRecords(all []api.Record) {
	m.records = append(m.records, all[:cap(all)])
	for _, r := range all {
		m.addRecord(r)
	}
}

func (m *memory) addRecord(r api.Record) {
	m.texts = append(m.texts, r.Key)
	m.loops = append(m.loops, r.Loops[:cap(r.Loops)])
	m.addValue(r.Val)
}

func (m *memory) addValue(v api.Value) {
	m.texts = append(m.texts, v.Text)
	m.values = append(m.values, v.Items[:cap(v.Items)])
	for _, item := range v.Items {
		m.addValue(item)
	}
}

// handed is what hangs on the arguments of a call.
func (c call) handed() *memory {
	m := &memory{}
	m.addItems(c.items)
	m.addRecords(c.records)
	return m
}

// memory is what hangs on an answer.
func (a answer) memory() *memory {
	m := call{items: a.items, records: a.records}.handed()
	m.addRecord(a.item.Rec)
	return m
}

// scribble writes over all lists and their spare room.
func (m *memory) scribble() {
	pen.Fill(m.items, marker(4711))
	pen.Fill(m.records, rec("scribbled"))
	pen.Fill(m.values, text("scribbled"))
	pen.Fill(m.loops, 4711)
}

// scribbleTexts writes over the bytes of the texts, which must have been lent.
func (m *memory) scribbleTexts() {
	for _, s := range m.texts {
		pen.Fill([][]byte{unsafe.Slice(unsafe.StringData(s), len(s))}, '#')
	}
}

// A span is where a list lies, its spare room in.
type span struct {
	from, to uintptr
	of       string
	given    bool
}

// spans gives where the lists lie; given says that they were handed in.
func (m *memory) spans(of string, given bool) []span {
	all := spansOf(m.items, of, given)
	all = append(all, spansOf(m.records, of, given)...)
	all = append(all, spansOf(m.values, of, given)...)
	return append(all, spansOf(m.loops, of, given)...)
}

func spansOf[T any](lists [][]T, of string, given bool) []span {
	var all []span
	for _, l := range lists {
		if len(l) > 0 {
			from := uintptr(unsafe.Pointer(&l[0]))
			all = append(all, span{from, from + uintptr(len(l))*unsafe.Sizeof(l[0]), of, given})
		}
	}
	return all
}

// apart fails the test if a list of an answer lies where another one, handed in or answered, lies too.
func apart(t *testing.T, all []span) {
	t.Helper()
	slices.SortFunc(all, func(a, b span) int { return cmp.Compare(a.from, b.from) })
	var handed, answered span // those that reach farthest so far
	for _, s := range all {
		if s.from < answered.to || s.from < handed.to && !s.given {
			t.Errorf("P5, Rules for all calls: memory of %s is memory of another list too: of %s or of %s", s.of, handed.of, answered.of)
		}
		if s.given && s.to > handed.to {
			handed = s
		}
		if !s.given && s.to > answered.to {
			answered = s
		}
	}
}

// nested gives a record with lists in lists.
func nested(key string) api.Record {
	return api.Record{Key: key, Val: list(num(1), list(text("t"+key), list(num(2), list()), none()), text("u")), Loops: []int{1, 2, 3}}
}

func none() api.Value { return api.Value{} }

// nestedCall writes a call as w does, with nested records.
func (w *writer) nestedCall() call {
	c := w.call()
	for k := range c.items {
		if w.Intn(4) > 0 || c.items[k].Mark == 0 {
			c.items[k].Rec = nested("n" + strconv.Itoa(w.made) + strconv.Itoa(k))
		}
	}
	for k := range c.records {
		c.records[k] = nested("r" + strconv.Itoa(w.made) + strconv.Itoa(k))
	}
	return c
}

// TestScriptsWhoseMemoryIsWrittenOver: behind each call all that was handed in and all that was answered is written over. The lane must not be touched by that, and must not have touched what was handed in.
func TestScriptsWhoseMemoryIsWrittenOver(t *testing.T) {
	for seed := range int64(400) {
		w := &writer{Rand: rand.New(rand.NewSource(seed))}
		room := int(seed) % (api.MaxCap + 1)
		l, m := made(t, "P5.1", room), &model{room: room}
		var all []span
		var alive []*memory
		for k := range 40 {
			c := w.nestedCall()
			given := c.roomy()
			in := given.handed()
			before := shown(in)
			got, want := given.of(l), c.of(m)
			if !like(got, want) {
				t.Fatalf("P5, Rules for all calls: seed %d: call %d, %v, answers %s, want %s: what was handed in or answered before has been written over", seed, k, c, shown(got), shown(want))
			}
			if shown(in) != before {
				t.Fatalf("P5, Rules for all calls: seed %d: call %d, %v, changes what it is handed, or the spare room behind it", seed, k, c)
			}
			out := got.memory()
			all = append(all, in.spans("an argument of "+c.String(), true)...)
			all = append(all, out.spans("an answer of "+c.String(), false)...)
			alive = append(alive, in, out)
			in.scribbleTexts()
			in.scribble()
			out.scribble()
		}
		apart(t, all)
		// Memory that is free again may be handed out anew.
		runtime.KeepAlive(alive)
		if t.Failed() {
			return
		}
	}
}

// TestListsThatAreHandedInTwice: where lists that are handed in share memory, those that come out do not.
func TestListsThatAreHandedInTwice(t *testing.T) {
	inner := list(num(1), num(2))
	r := api.Record{Key: "r", Val: list(inner, inner, list(inner)), Loops: []int{1, 2}}
	put := call{kind: callPut, items: []api.Item{{Rec: r}, marker(1), {Rec: r}}}
	script := []call{put, put, {kind: callRefill, records: []api.Record{r, r}}}
	for _, kind := range []int{callPeek, callPeek, callList, callList, callPull, callPull, callTake, callTake, callClose} {
		script = append(script, call{kind: kind})
	}
	l, m := made(t, "P5.1", 0), &model{}
	all := put.handed().spans("an argument", true)
	var alive []answer
	for _, c := range script {
		got, want := c.of(l), c.of(m)
		if !like(got, want) {
			t.Errorf("P5: %v answers %s, want %s", c, shown(got), shown(want))
		}
		alive = append(alive, got)
		all = append(all, got.memory().spans("an answer of "+c.String(), false)...)
	}
	apart(t, all)
	runtime.KeepAlive(alive)
}

// odd gives records that are not valid, in every way, and some that are at their bounds.
func odd() []api.Record {
	deep := num(5)
	for range 1<<16 - 2 {
		deep = list(deep)
	}
	return []api.Record{
		{Key: "a key of more than twelve bytes"}, {Key: "\xff\x00\n"}, {Key: strings.Repeat("k", 1<<16)},
		{Val: api.Value{Kind: 77}}, {Val: api.Value{Kind: -1, Int: -1, Text: "t", Items: []api.Value{num(1)}}}, {Val: api.Value{Int: 1, Text: "u", Items: []api.Value{text("v")}}},
		{Val: api.Value{Kind: api.Int, Int: -1 << 63, Text: "t", Items: []api.Value{{}}}}, {Val: api.Value{Kind: api.Text, Int: 1<<63 - 1, Text: strings.Repeat("t", 25), Items: []api.Value{list()}}},
		{Val: api.Value{Kind: api.List, Int: 3, Text: "t"}}, {Val: list(slices.Repeat([]api.Value{list(none())}, 1000)...)}, {Val: list(list(list(list(list(num(1), api.Value{Kind: 9})))))}, {Val: deep},
		{Loops: []int{-1, 10, 1<<63 - 1, -1 << 63}}, {Loops: make([]int, 1000)}, {Loops: []int{}}, {Val: api.Value{Items: []api.Value{}}}, {},
	}
}

func TestRecordsThatAreNotValidAreCarried(t *testing.T) {
	for n, r := range odd() {
		l := made(t, "P5", 1)
		asked := func(call string, got api.Record) {
			if !likeRecord(got, r) {
				t.Errorf("P5, The face: record %d, key %.20q, comes out of %s as another", n, r.Key, call)
			}
		}
		if laid, e := l.Put(api.Item{Rec: r}, marker(1)); laid != 2 || e != api.OK {
			t.Errorf("P5.2: Put of record %d answers %d, error %d", n, laid, e)
		}
		l.fullIs(true)
		if e := l.Refill([]api.Record{r}); e != api.OK {
			t.Errorf("P5.5: Refill of record %d answers error %d", n, e)
		}
		peeked, _ := l.Peek()
		asked("Peek", peeked.Rec)
		listed := l.List()
		_, ahead := l.Pull()
		if len(listed) != 3 || len(ahead) != 2 {
			t.Fatalf("P5.4, P5.6: record %d: List answers %d items, Pull %d records", n, len(listed), len(ahead))
		}
		for k := range ahead {
			asked("List", listed[k].Rec)
			asked("Pull", ahead[k])
		}
		taken, _ := l.Take()
		asked("Take", taken.Rec)
		left := l.Close()
		if len(left) != 1 {
			t.Fatalf("P5.7: record %d: Close answers %d items", n, len(left))
		}
		asked("Close", left[0].Rec)
	}
}

// TestAnswersCanBeAppendedTo: what is appended to one list is seen in no other.
func TestAnswersCanBeAppendedTo(t *testing.T) {
	l := made(t, "P5", 0)
	for k := range 20 {
		l.Put(api.Item{Rec: nested(strconv.Itoa(k))})
	}
	l.Put(marker(1))
	listed := l.List()
	for k := range listed {
		listed[k].Rec.Loops = append(listed[k].Rec.Loops, 8, 8, 8, 8)
		listed[k].Rec.Val.Items = append(listed[k].Rec.Val.Items, num(8), num(8))
	}
	_, ahead := l.Pull()
	for k := range ahead {
		ahead[k].Loops = append(ahead[k].Loops, 9, 9, 9, 9)
		ahead[k].Val.Items = append(ahead[k].Val.Items, num(9), num(9))
	}
	for k := range 20 {
		x, _ := l.Take()
		want := nested(strconv.Itoa(k))
		if !likeRecord(x.Rec, want) || !slices.Equal(listed[k].Rec.Loops, []int{1, 2, 3, 8, 8, 8, 8}) || !slices.Equal(ahead[k].Loops, []int{1, 2, 3, 9, 9, 9, 9}) || len(listed[k].Rec.Val.Items) != 5 || listed[k].Rec.Val.Items[4].Int != 8 {
			t.Fatalf("P5, Rules for all calls: record %d comes out as %s; List: %s; Pull: %s", k, shown(x), shown(listed[k]), shown(ahead[k]))
		}
	}
}
