package link_test

import (
	"fmt"
	"math"
	"strings"
	"testing"

	"eddy/api"
	"eddy/link"
)

// TestNew: P22.3, P22.8: every lane and window around the edges.
func TestNew(t *testing.T) {
	far := []int{math.MinInt, math.MinInt32, -1 << 40, 1 << 32, 1<<32 + 1, math.MaxInt32, math.MaxInt}
	list := far
	for n := -2; n < 27; n++ {
		list = append(list, n)
	}
	for _, lane := range list {
		for _, window := range list {
			ok := lane >= 0 && lane < 24 && window >= 1 && window <= 16
			s, e := link.NewSender(lane, window)
			r, f := link.NewReceiver(lane, window)
			if !ok {
				if s != nil || r != nil || e != api.ErrLinkNew || f != api.ErrLinkNew {
					t.Errorf("P22.3, P22.8: lane %d, window %d: %d, %d", lane, window, e, f)
				}
				continue
			}
			if s == nil || r == nil || e != api.OK || f != api.OK {
				t.Fatalf("P22.3, P22.8: lane %d, window %d: %d, %d", lane, window, e, f)
			}
			wantSender(t, "P22.3: at first", s, 0, 0, "")
			want(t, "P22.8: at first", bodies(r.Answer()), bodies(answer(lane, 1, 0)))
			want(t, "P22.8: ready at first", len(drain(r)), 0)
			s.Put([]byte("m"))
			want(t, "P22.3: the lane", bodies(s.Tick()...), bodies(data(lane, 1, "m")))
		}
	}
}

// wantSender fails if a sending end tells something else.
func wantSender(t *testing.T, what string, s sender, open, word int, packets string) {
	t.Helper()
	want(t, what+": Open", s.Open(), open)
	want(t, what+": Word", s.Word(), word)
	want(t, what+": Tick", bodies(s.Tick()...), packets)
}

// TestPutLengths: P22.4: messages of no bytes up to the longest one, and longer ones.
func TestPutLengths(t *testing.T) {
	s := newSender(0, 16)
	var packets []string
	for k, n := range []int{0, 1, 2, 127, 128, 4095, 4096} {
		m := strings.Repeat("x", n)
		want(t, fmt.Sprintf("P22.4: Put of %d bytes", n), s.Put([]byte(m)), api.OK)
		packets = append(packets, bodies(data(0, k+1, m)))
		wantSender(t, "P22.4", s, k+1, 0, strings.Join(packets, " "))
	}
	for _, n := range []int{4097, 4098, 8192, 32768, 65536 + 1, 1 << 20} {
		want(t, fmt.Sprintf("P22.4: Put of %d bytes", n), s.Put(make([]byte, n)), api.ErrLinkLong)
		wantSender(t, "P22.4: behind a refused one", s, len(packets), 0, strings.Join(packets, " "))
	}
	want(t, "P22.4: Put of nil", s.Put(nil), api.OK)
	wantSender(t, "P22.4", s, 8, 0, strings.Join(append(packets, bodies(data(0, 8, ""))), " "))
}

// TestPutEnd: P22.4: the last number, and the errors in their order.
func TestPutEnd(t *testing.T) {
	s := link.SenderAt(5, 2, 1<<30-2)
	want(t, "P22.4: the last but one", s.Put([]byte("y")), api.OK)
	want(t, "P22.4: too long ahead of the end", s.Put(make([]byte, 4097)), api.ErrLinkLong)
	want(t, "P22.4: the last one", s.Put([]byte("z")), api.OK)
	packets := bodies(data(5, 1<<30-1, "y"), data(5, 1<<30, "z"))
	for range 2 {
		want(t, "P22.4: one more", s.Put([]byte("more")), api.ErrLinkEnd)
		want(t, "P22.4: none more", s.Put(nil), api.ErrLinkEnd)
		want(t, "P22.4: too long at the end", s.Put(make([]byte, 4097)), api.ErrLinkLong)
		wantSender(t, "P22.4: at the end", s, 2, 0, packets)
	}
	want(t, "P22.6: the last message is answered", s.Ack(answer(5, 1<<30+1, 1<<30)), api.OK)
	wantSender(t, "P22.6: at the end", s, 0, 1<<30, "")
	want(t, "P22.4: all are answered", s.Put([]byte("more")), api.ErrLinkEnd)
	want(t, "P22.6: a late answer", s.Ack(answer(5, 1, 0)), api.OK)
	wantSender(t, "P22.6: at the end", s, 0, 1<<30, "")
}

// TestPutMany: P22.4: there is no bound of how many wait.
func TestPutMany(t *testing.T) {
	const many = 300000
	s := newSender(1, 3)
	for k := range many {
		if e := s.Put([]byte{byte(k), byte(k >> 8), byte(k >> 16)}); e != api.OK {
			t.Fatalf("P22.4: Put of message %d: %d", k+1, e)
		}
	}
	message := func(number int) string {
		return string([]byte{byte(number - 1), byte((number - 1) >> 8), byte((number - 1) >> 16)})
	}
	wantSender(t, "P22.4: many", s, many, 0, bodies(data(1, 1, message(1)), data(1, 2, message(2)), data(1, 3, message(3))))
	// One answer a message: that this ends soon shows that an answer doesn't go through all that waits.
	for next := 2; next <= many-1; next++ {
		if e := s.Ack(answer(1, next, next)); e != api.OK {
			t.Fatalf("P22.6: Ack of %d: %d", next, e)
		}
	}
	wantSender(t, "P22.6: many", s, 2, many-1, bodies(data(1, many-1, message(many-1)), data(1, many, message(many))))
}

// TestTick: P22.5: no message, fewer than the window, as many, more; twice; behind answers.
func TestTick(t *testing.T) {
	for window := 1; window <= 16; window++ {
		for put := range 40 {
			s := newSender(7, window)
			for k := range put {
				s.Put([]byte{byte(k)})
			}
			for next := 1; next <= put+1; next++ {
				want(t, "P22.6: Ack", s.Ack(answer(7, next, 0)), api.OK)
				var packets [][]byte
				for number := next; number <= put && number < next+window; number++ {
					packets = append(packets, data(7, number, string([]byte{byte(number - 1)})))
				}
				for range 2 {
					wantSender(t, fmt.Sprintf("P22.5: window %d, %d put, %d answered", window, put, next-1), s, put+1-next, 0, bodies(packets...))
				}
			}
		}
	}
}

// TestAckErrors: P22.6: each error ahead of the next, and that a refused answer changes nothing.
func TestAckErrors(t *testing.T) {
	s := newSender(3, 2)
	for _, m := range []string{"a", "b", "c"} {
		s.Put([]byte(m))
	}
	want(t, "P22.6: Ack", s.Ack(answer(3, 2, 7)), api.OK)
	for _, c := range []struct {
		what   string
		packet []byte
		want   api.Errno
	}{
		{"nothing", nil, api.ErrLinkPacket}, {"an empty list", []byte{}, api.ErrLinkPacket}, {"an empty body", framed(), api.ErrLinkPacket}, {"a body without its frame", answerBody(3, 3, 9), api.ErrLinkPacket}, {"a byte behind", append(answer(3, 3, 9), 0), api.ErrLinkPacket},
		{"a data packet", data(3, 1, "a"), api.ErrLinkPacket}, {"a data packet of another lane", data(4, 1, "a"), api.ErrLinkPacket}, {"a data packet of a number that wasn't put", data(3, 9, ""), api.ErrLinkPacket},
		{"no lane", answer(24, 3, 9), api.ErrLinkPacket}, {"a word above the greatest", answer(3, 3, 1<<30+1), api.ErrLinkPacket}, {"a number above the greatest", answer(3, 1<<30+2, 9), api.ErrLinkPacket}, {"of another lane, a word above the greatest", answer(4, 3, 1<<30+1), api.ErrLinkPacket},
		{"another lane", answer(4, 3, 9), api.ErrLinkLane}, {"lane 0", answer(0, 3, 9), api.ErrLinkLane}, {"lane 23", answer(23, 3, 9), api.ErrLinkLane}, {"of another lane, the number 0", answer(2, 0, 9), api.ErrLinkLane}, {"of another lane, a number that wasn't put", answer(2, 5, 9), api.ErrLinkLane},
		{"the number 0", answer(3, 0, 9), api.ErrLinkNumber}, {"the last plus 2", answer(3, 5, 9), api.ErrLinkNumber}, {"the greatest number", answer(3, 1<<30+1, 9), api.ErrLinkNumber}, {"the number 0 with the greatest word", answer(3, 0, 1<<30), api.ErrLinkNumber},
	} {
		want(t, "P22.6: "+c.what, s.Ack(c.packet), c.want)
		wantSender(t, "P22.6: behind "+c.what, s, 2, 7, bodies(data(3, 2, "b"), data(3, 3, "c")))
	}
}

// TestAck: P22.6, P22.7: answers in any order: those that were answered stay so, and the word is the greatest one.
func TestAck(t *testing.T) {
	s := newSender(0, 16)
	for range 5 {
		s.Put(nil)
	}
	for k, c := range []struct{ next, word, open, wordBehind int }{
		{1, 0, 5, 0}, {3, 4, 3, 4}, {3, 4, 3, 4}, {2, 6, 3, 6}, {1, 5, 3, 6}, {4, 0, 2, 6}, {3, 1 << 30, 2, 1 << 30}, {6, 1, 0, 1 << 30}, {6, 0, 0, 1 << 30}, {1, 1<<30 - 1, 0, 1 << 30},
	} {
		want(t, fmt.Sprintf("P22.6: answer %d", k), s.Ack(answer(0, c.next, c.word)), api.OK)
		want(t, fmt.Sprintf("P22.7: Open behind answer %d", k), s.Open(), c.open)
		want(t, fmt.Sprintf("P22.7: Word behind answer %d", k), s.Word(), c.wordBehind)
		want(t, fmt.Sprintf("P22.5: Tick behind answer %d", k), len(s.Tick()), c.open)
	}
	want(t, "P22.6: the last plus 2", s.Ack(answer(0, 7, 0)), api.ErrLinkNumber)
	s.Put([]byte("f"))
	wantSender(t, "P22.4: behind answers", s, 1, 1<<30, bodies(data(0, 6, "f")))
	want(t, "P22.6: the last plus 1", s.Ack(answer(0, 7, 0)), api.OK)
	wantSender(t, "P22.6", s, 0, 1<<30, "")
}

// TestAckOfNothing: P22.6: where nothing was put, the number 1 alone may be wanted.
func TestAckOfNothing(t *testing.T) {
	s := newSender(0, 1)
	want(t, "P22.6: 0", s.Ack(answer(0, 0, 1)), api.ErrLinkNumber)
	want(t, "P22.6: 2", s.Ack(answer(0, 2, 1)), api.ErrLinkNumber)
	wantSender(t, "P22.6", s, 0, 0, "")
	want(t, "P22.6: 1", s.Ack(answer(0, 1, 1)), api.OK)
	wantSender(t, "P22.6", s, 0, 1, "")
}
