package link_test

import (
	"fmt"
	"runtime"
	"slices"
	"strings"
	"sync"
	"testing"

	"eddy/api"
	"eddy/link"
	"eddy/memory"
	"eddy/pen"
)

const rules = "Rules for all calls"

// roomy gives the same bytes with spare room behind them.
func roomy(b []byte) []byte { return memory.Roomy(b, nil) }

// An answering calls an end: the lists that it answers, and all that it tells.
type answering func(call) ([]any, string)

func senderAnswers(s sender) answering {
	return func(c call) ([]any, string) {
		told := c.ofSender(s)
		return []any{s.Tick(), s.Tick()}, told
	}
}

func receiverAnswers(r receiver) answering {
	return func(c call) ([]any, string) {
		var b []byte
		var e api.Errno
		ok := false
		switch c.what {
		case "take":
			b, e = r.Take(c.bytes)
		case "next":
			b, ok = r.Next()
		case "tell":
			r.Tell(c.word)
		}
		first, second := r.Answer(), r.Answer()
		return []any{b, first, second}, fmt.Sprintf("%x, %d, %v: %x, %x", b, e, ok, first, second)
	}
}

// withRoom lets an end play a script with bytes that have spare room behind them: they are the same behind the call, spare room too, and are written over then. What a call answers is as the model says, and is the same at the end of the script.
func withRoom(t *testing.T, script []call, end, model answering) {
	t.Helper()
	var kept []*memory.Memory
	var told []string
	for k, c := range script {
		c.bytes = roomy(c.bytes)
		handed := memory.Of(c.bytes)
		before := handed.Told()
		answered, got := end(c)
		_, wanted := model(c)
		if handed.Told() != before {
			t.Fatalf("%s: call %d of %v changed what it was handed", rules, k, script)
		}
		if got != wanted {
			t.Fatalf("%s: call %d of %v: %.200s, want %.200s", rules, k, script, got, wanted)
		}
		handed.Scribble()
		m := memory.Of(answered...)
		kept, told = append(kept, m), append(told, m.Told())
	}
	for k, m := range kept {
		if m.Told() != told[k] {
			t.Fatalf("%s: what call %d of %v answered has changed", rules, k, script)
		}
		if !m.Apart() {
			t.Fatalf("%s: lists that call %d of %v answered share memory", rules, k, script)
		}
	}
}

// TestHandedIn: what is handed in is neither changed nor kept; what is answered stays what it is.
func TestHandedIn(t *testing.T) {
	for seed := range 120 {
		d := &drawer{Pen: pen.Seeded(seed)}
		d.lane = d.Below(24)
		window := d.Between(1, 16)
		withRoom(t, d.senderScript(0), senderAnswers(newSender(d.lane, window)), senderAnswers(&sending{lane: d.lane, window: window}))
		withRoom(t, d.receiverScript(0), receiverAnswers(newReceiver(d.lane, window)), receiverAnswers(&receiving{lane: d.lane, window: window}))
	}
}

// writeOver writes over lists, and behind them.
func writeOver(lists ...any) {
	m := memory.Of(lists...)
	m.Extend()
	m.Scribble()
}

// TestAnswersWrittenOver: who writes over what was answered, and appends to it, touches neither the end nor a later answer.
func TestAnswersWrittenOver(t *testing.T) {
	for seed := range 300 {
		d := &drawer{Pen: pen.Seeded(seed)}
		d.lane = d.Below(24)
		window := d.Between(1, 16)
		s, m := senderAnswers(newSender(d.lane, window)), senderAnswers(&sending{lane: d.lane, window: window})
		for k, c := range d.senderScript(0) {
			answered, got := s(c)
			_, wanted := m(c)
			want(t, fmt.Sprintf("%s: sending end, call %d", rules, k), got, wanted)
			writeOver(answered...)
		}
		r, n := receiverAnswers(newReceiver(d.lane, window)), receiverAnswers(&receiving{lane: d.lane, window: window})
		for k, c := range d.receiverScript(0) {
			answered, got := r(c)
			_, wanted := n(c)
			want(t, fmt.Sprintf("%s: receiving end, call %d", rules, k), got, wanted)
			writeOver(answered...)
		}
	}
}

// TestGivenApart: the messages that ends give share no memory with one another, with packets or with answers.
func TestGivenApart(t *testing.T) {
	packets := [][]byte{roomy(data(3, 3, "three")), roomy(data(3, 2, "")), roomy(data(3, 1, "one")), roomy(data(3, 4, strings.Repeat("4", 4096)))}
	var given []any
	for range 2 {
		r := newReceiver(3, 4)
		for _, p := range packets {
			a, e := r.Take(p)
			want(t, "P22.9: Take", e, api.OK)
			given = append(given, a)
		}
		for range packets {
			m, ok := r.Next()
			want(t, "P22.10: Next", ok, true)
			given = append(given, m)
		}
	}
	if !memory.Of(append(given, packets)...).Apart() {
		t.Errorf("%s: what two ends gave shares memory", rules)
	}
}

// TestTickApart: the packets of one Tick share no memory, nor do they with those of another end that was put the same.
func TestTickApart(t *testing.T) {
	body := roomy([]byte("the same"))
	s, other := newSender(3, 16), newSender(3, 16)
	for range 16 {
		s.Put(body)
		other.Put(body)
	}
	if !memory.Of(body, s.Tick(), s.Tick(), other.Tick()).Apart() {
		t.Errorf("%s: what Tick told shares memory", rules)
	}
	want(t, "P22.5: Tick behind it", bodies(s.Tick()[15]), bodies(data(3, 16, "the same")))
}

// TestNilAndEmpty: they are the same for every call that is handed a list.
func TestNilAndEmpty(t *testing.T) {
	for _, none := range [][]byte{nil, {}, make([]byte, 0, 8)} {
		s, r := newSender(3, 2), newReceiver(3, 2)
		want(t, rules+": Put of none", s.Put(none), api.OK)
		wantSender(t, rules+": Put of none", s, 1, 0, "440301")
		want(t, rules+": Ack of none", s.Ack(none), api.ErrLinkPacket)
		a, e := r.Take(none)
		want(t, rules+": Take of none", e, api.ErrLinkPacket)
		want(t, rules+": Take of none", len(a), 0)
		lane, isAnswer, ok := link.Lane(none)
		if lane != 0 || isAnswer || ok {
			t.Errorf("P22.2: Lane of none: %d, %v, %v", lane, isAnswer, ok)
		}
	}
}

// TestLaneLeaves: Lane changes nothing of what it is handed.
func TestLaneLeaves(t *testing.T) {
	for _, p := range [][]byte{data(3, 1, "a"), answer(3, 1, 0), hex("01 02 03"), framed(hex("44 18 01")...)} {
		p = roomy(p)
		m := memory.Of(p)
		before := m.Told()
		link.Lane(p)
		want(t, rules+": Lane", m.Told(), before)
	}
}

// inUse tells how much memory is in use.
func inUse() int {
	runtime.GC()
	var m runtime.MemStats
	runtime.ReadMemStats(&m)
	return int(m.HeapAlloc)
}

// TestNothingMoreIsKept: messages that were answered, that were given, or that lie beyond the window are let go.
func TestNothingMoreIsKept(t *testing.T) {
	const many = 3000
	message := strings.Repeat("x", 4096)
	before := inUse()
	s, r := newSender(0, 4), newReceiver(0, 4)
	s.Put([]byte(message))
	for n := 1; n <= many; n++ {
		s.Put([]byte(message))
		a, _ := r.Take(s.Tick()[0])
		s.Ack(a)
		if m, ok := r.Next(); !ok || len(m) != 4096 {
			t.Fatalf("P22.10: message %d: %d bytes, %v", n, len(m), ok)
		}
		r.Take(data(0, n+5, message))
		r.Take(data(0, n, message))
	}
	if more := inUse() - before; more > 4096*many/10 {
		t.Errorf("what is kept behind %d messages has %d bytes", many, more)
	}
	want(t, "P22.7: open", s.Open(), 1)
	want(t, "P22.12", bodies(r.Answer()), bodies(answer(0, many+1, 0)))
}

// TestLongLists: of many messages that waited, and were answered or given but for the last ones, the last ones alone are kept.
func TestLongLists(t *testing.T) {
	const many = 3000
	message := strings.Repeat("x", 4096)
	before := inUse()
	s, r := newSender(0, 1), newReceiver(0, 1)
	for n := 1; n <= many; n++ {
		s.Put([]byte(message))
		r.Take(data(0, n, message))
	}
	for range many - 1 {
		r.Next()
	}
	want(t, "P22.6: all but one are answered", s.Ack(answer(0, many, 0)), api.OK)
	if more := inUse() - before; more > 4096*many/10 {
		t.Errorf("what is kept of %d messages has %d bytes", many, more)
	}
	want(t, "P22.5: the last one", bodies(s.Tick()...), bodies(data(0, many, message)))
	want(t, "P22.10: the last one", strings.Join(drain(r), ","), message)
}

// TestAtTheSameTime: ends beside one another that are called at the same time, with the same bytes in hand.
func TestAtTheSameTime(t *testing.T) {
	d := &drawer{Pen: pen.Seeded(1), lane: 3}
	sends, takes := d.senderScript(0), d.receiverScript(0)
	var wait sync.WaitGroup
	told := make([][]string, 8)
	for k := range told {
		wait.Go(func() {
			s, r := newSender(3, 5), newReceiver(3, 5)
			for _, c := range sends {
				told[k] = append(told[k], c.ofSender(s))
			}
			for _, c := range takes {
				link.Lane(c.bytes)
				told[k] = append(told[k], c.ofReceiver(r))
			}
		})
	}
	wait.Wait()
	for k := range told {
		if !slices.Equal(told[k], told[0]) {
			t.Errorf("%s: end %d told otherwise than end 0", rules, k)
		}
	}
}
