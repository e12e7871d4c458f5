package link_test

import (
	"fmt"
	"slices"
	"testing"

	"eddy/api"
	"eddy/link"
	"eddy/pen"
)

// A road lies between two ends: it keeps every packet that was ever told, and hands any of them over, as often as it is drawn.
type road struct {
	*pen.Pen
	s             *link.Sender
	r             *link.Receiver
	lane          int
	put, given    []string
	data, answers [][]byte
	words         []int // those that the receiving end had
	word          int   // of the sending end, at last
	cases         map[string]int
}

func newRoad(seed int, cases map[string]int) *road {
	p := pen.Seeded(seed)
	lane := p.Below(24)
	return &road{Pen: p, lane: lane, s: newSender(lane, p.Between(1, 16)), r: newReceiver(lane, p.Between(1, 16)), words: []int{0}, cases: cases}
}

// drawn gives a packet out of those that were told; lately told ones come up more often than others.
func (w *road) drawn(packets [][]byte) []byte {
	if w.Below(2) == 0 {
		packets = packets[max(0, len(packets)-20):]
	}
	return packets[w.Below(len(packets))]
}

// step lets one thing happen.
func (w *road) step(t *testing.T) {
	t.Helper()
	switch kind := w.Below(12); {
	case kind == 0:
		m := fmt.Sprint("message ", len(w.put), w.Below(1000))[:w.Below(12)]
		want(t, "P22.4: Put", w.s.Put([]byte(m)), api.OK)
		w.put = append(w.put, m)
	case kind == 1:
		w.data = append(w.data, w.s.Tick()...)
	case kind == 2:
		w.answers = append(w.answers, w.r.Answer())
	case kind == 3:
		word := w.Below(200)
		w.r.Tell(word)
		w.words = append(w.words, max(word, w.words[len(w.words)-1]))
	case kind == 4:
		if m, ok := w.r.Next(); ok {
			w.given = append(w.given, string(m))
		}
	case kind < 9 && len(w.data) > 0:
		w.bring(t, w.drawn(w.data), func(p []byte) api.Errno {
			a, e := w.r.Take(p)
			if e == api.OK {
				w.answers = append(w.answers, a)
			}
			return e
		})
	case kind >= 9 && len(w.answers) > 0:
		w.bring(t, w.drawn(w.answers), w.s.Ack)
	}
}

// bring lets an end take a packet: as it was told or, at times, with one bit turned, and then it is refused.
func (w *road) bring(t *testing.T, packet []byte, take func([]byte) api.Errno) {
	t.Helper()
	if w.Below(4) == 0 {
		spoilt := turned(packet, w.Below(8*len(packet)))
		want(t, "P22.14: a turned bit", take(spoilt), api.ErrLinkPacket)
		w.cases["turned"]++
		return
	}
	want(t, "P22.13: a packet that was told", take(packet), api.OK)
}

// ready tells how many messages were ready at the receiving end by now, which is what its answer says.
func (w *road) ready() int {
	s, _ := understood(w.r.Answer())
	return s.number - 1
}

// check holds both ends against P22.13.
func (w *road) check(t *testing.T) {
	t.Helper()
	if len(w.given) > len(w.put) || !slices.Equal(w.given, w.put[:len(w.given)]) {
		t.Fatalf("P22.13: given %q, which isn't a first part of %q", w.given, w.put)
	}
	if answered := len(w.put) - w.s.Open(); answered < 0 || answered > w.ready() || w.ready() > len(w.put) {
		t.Fatalf("P22.13: %d answered, %d ready, %d put", answered, w.ready(), len(w.put))
	}
	if word := w.s.Word(); word < w.word || !slices.Contains(w.words, word) {
		t.Fatalf("P22.13: the word %d behind %d; the receiving end had %v", word, w.word, w.words)
	}
	w.word = w.s.Word()
}

// TestAnyRoad: P22.13: packets lost, doubled, late, out of order, spoilt.
func TestAnyRoad(t *testing.T) {
	cases := map[string]int{}
	for seed := range 1500 {
		w := newRoad(seed, cases)
		for range w.Between(1, 400) {
			w.step(t)
			w.check(t)
		}
		cases["given"] += len(w.given)
		cases["answered"] += len(w.put) - w.s.Open()
		cases["ahead"] += w.ready() - (len(w.put) - w.s.Open())
		cases["word"] += one(w.word > 0)
		// What is ready and wasn't given is the next part of what was put.
		w.given = append(w.given, drain(w.r)...)
		w.check(t)
		want(t, "P22.13: given, at the end", len(w.given), w.ready())
	}
	wantCases(t, cases, map[string]int{"given": 5000, "answered": 5000, "ahead": 1000, "word": 1000, "turned": 20000})
}

// A pair is two like ends: at the second one packets that were taken are taken again.
type pair struct {
	*pen.Pen
	s, sAgain *link.Sender
	r, rAgain *link.Receiver
	window    int      // of the receiving ends
	kept      [][]byte // data packets whose messages were kept or were ready already
	answers   [][]byte
}

func (p *pair) put(m string) {
	p.s.Put([]byte(m))
	p.sAgain.Put([]byte(m))
}

func (p *pair) tell(word int) {
	p.r.Tell(word)
	p.rAgain.Tell(word)
}

// take lets both take a packet, and the second one take it again at once, and others later on. (A packet that was beyond the window is another matter: it may come again when the window has come to it.)
func (p *pair) take(t *testing.T, packet []byte) {
	t.Helper()
	now, _ := understood(p.r.Answer())
	if s, _ := understood(packet); s.number < now.number+p.window {
		p.kept = append(p.kept, packet)
	}
	a, _ := p.r.Take(packet)
	p.answers = append(p.answers, a)
	want(t, "P22.14: the answer", bodies(first(p.rAgain.Take(packet))), bodies(a))
	want(t, "P22.14: the answer to a packet that is taken again at once", bodies(first(p.rAgain.Take(packet))), bodies(a))
	for range p.Below(3) {
		if len(p.kept) > 0 {
			again := p.kept[p.Below(len(p.kept))]
			want(t, "P22.14: the answer to a packet that is taken again later on", bodies(first(p.rAgain.Take(again))), bodies(a))
		}
	}
}

func first(b []byte, _ api.Errno) []byte { return b }

// ack lets both take an answer, and the second one take it again, and those that it took before.
func (p *pair) ack(t *testing.T) {
	t.Helper()
	if len(p.answers) == 0 {
		return
	}
	at := p.Below(len(p.answers))
	for _, a := range p.answers[:at+1] {
		p.s.Ack(a)
		p.sAgain.Ack(a)
	}
	for range p.Below(4) {
		want(t, "P22.14: Ack again", p.sAgain.Ack(p.answers[p.Below(at+1)]), api.OK)
	}
}

// TestTakenAgain: P22.14: a packet that is taken again changes nothing, at once or later on.
func TestTakenAgain(t *testing.T) {
	for seed := range 400 {
		p := &pair{Pen: pen.Seeded(seed)}
		lane, out := p.Below(24), p.Between(1, 16)
		p.window = p.Between(1, 16)
		p.s, p.sAgain = newSender(lane, out), newSender(lane, out)
		p.r, p.rAgain = newReceiver(lane, p.window), newReceiver(lane, p.window)
		for k := range 60 {
			switch p.Below(4) {
			case 0:
				p.put(fmt.Sprint(k))
			case 1:
				p.tell(k)
			case 2:
				for _, packet := range p.s.Tick() {
					if p.Below(3) > 0 {
						p.take(t, packet)
					}
				}
			case 3:
				p.ack(t)
			}
			wantSender(t, "P22.14", p.sAgain, p.s.Open(), p.s.Word(), bodies(p.s.Tick()...))
			want(t, "P22.14: Answer", bodies(p.rAgain.Answer()), bodies(p.r.Answer()))
		}
		if got, want := drain(p.rAgain), drain(p.r); !slices.Equal(got, want) {
			t.Errorf("P22.14: given %q, want %q", got, want)
		}
	}
}

// round lets the packets of one Tick be taken, each once, and their answers, each in a drawn order.
func (w *road) round(t *testing.T) {
	t.Helper()
	packets := w.s.Tick()
	var answers [][]byte
	for _, k := range w.Order(len(packets)) {
		a, e := w.r.Take(packets[k])
		want(t, "P22.15: Take", e, api.OK)
		answers = append(answers, a)
	}
	for _, k := range w.Order(len(answers)) {
		want(t, "P22.15: Ack", w.s.Ack(answers[k]), api.OK)
	}
}

// wantAllReady fails if a message that was put isn't ready or given, or the words differ.
func wantAllReady(t *testing.T, w *road, rounds int) {
	t.Helper()
	want(t, "P22.15: open", w.s.Open(), 0)
	want(t, "P22.15: ready", w.ready(), len(w.put))
	if rounds > 0 {
		want(t, "P22.15: the word", w.s.Word(), w.words[len(w.words)-1])
	}
	w.given = append(w.given, drain(w.r)...)
	if !slices.Equal(w.given, w.put) {
		t.Errorf("P22.15: given %q, put %q", w.given, w.put)
	}
}

// TestRounds: P22.15: behind any past, with windows of both ends that differ.
func TestRounds(t *testing.T) {
	cases := map[string]int{}
	for seed := range 1500 {
		p := pen.Seeded(seed)
		out, in := p.Between(1, 16), p.Between(1, 16)
		w := newRoad(seed, cases)
		w.s, w.r = newSender(w.lane, out), newReceiver(w.lane, in)
		for range p.Below(300) {
			w.step(t)
		}
		for range p.Below(40) {
			w.s.Put([]byte("late"))
			w.put = append(w.put, "late")
		}
		least := min(out, in)
		rounds := (w.s.Open() + least - 1) / least
		for range rounds {
			w.round(t)
			w.check(t)
		}
		wantAllReady(t, w, rounds)
		cases["rounds"] += rounds
		cases["out above in"] += one(out > in)
		cases["in above out"] += one(out < in)
	}
	wantCases(t, cases, map[string]int{"rounds": 3000, "out above in": 300, "in above out": 300})
}

// TestRoundsFromTheFirst: P22.15: each pair of windows, each number of messages up to some, in order and the other way round.
func TestRoundsFromTheFirst(t *testing.T) {
	for out := 1; out <= 16; out++ {
		for in := 1; in <= 16; in++ {
			for n := range 40 {
				s, r := newSender(1, out), newReceiver(1, in)
				for range n {
					s.Put(nil)
				}
				r.Tell(n)
				least := min(out, in)
				rounds := 0
				for ; rounds < (n+least-1)/least; rounds++ {
					packets := s.Tick()
					slices.Reverse(packets)
					for _, p := range packets {
						a, _ := r.Take(p)
						s.Ack(a)
					}
				}
				if s.Open() != 0 || len(drain(r)) != n || rounds > 0 && s.Word() != n {
					t.Fatalf("P22.15: windows %d and %d, %d messages: %d open behind %d rounds, word %d", out, in, n, s.Open(), rounds, s.Word())
				}
			}
		}
	}
}

// TestEndsApart: two ends of one lane beside one another don't touch one another.
func TestEndsApart(t *testing.T) {
	for seed := range 300 {
		p := pen.Seeded(seed)
		lane := p.Below(24)
		d := &drawer{Pen: pen.Seeded(1000 + seed), lane: lane}
		var senders, senderModels [2]sender
		var receivers, receiverModels [2]receiver
		for k := range 2 {
			window := p.Between(1, 16)
			senders[k], senderModels[k] = newSender(lane, window), &sending{lane: lane, window: window}
			receivers[k], receiverModels[k] = newReceiver(lane, window), &receiving{lane: lane, window: window}
		}
		for k, c := range d.senderScript(0) {
			at := p.Below(2)
			want(t, fmt.Sprintf("two sending ends, call %d", k), c.ofSender(senders[at]), c.ofSender(senderModels[at]))
		}
		for k, c := range d.receiverScript(0) {
			at := p.Below(2)
			want(t, fmt.Sprintf("two receiving ends, call %d", k), c.ofReceiver(receivers[at]), c.ofReceiver(receiverModels[at]))
		}
	}
}
