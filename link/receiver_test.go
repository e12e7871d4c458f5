package link_test

import (
	"fmt"
	"math"
	"strings"
	"testing"

	"eddy/api"
	"eddy/link"
)

// take lets a receiving end take a packet; it fails if the answer is another one, or isn't what Answer tells behind it.
func take(t *testing.T, what string, r receiver, packet []byte, next, word int) {
	t.Helper()
	got, e := r.Take(packet)
	want(t, what+": Take", e, api.OK)
	want(t, what+": the answer", bodies(got), bodies(answer(3, next, word)))
	want(t, what+": Answer", bodies(r.Answer()), bodies(got))
}

func wantReady(t *testing.T, what string, r receiver, messages ...string) {
	t.Helper()
	want(t, what+": ready", strings.Join(drain(r), ","), strings.Join(messages, ","))
	for range 2 {
		if m, ok := r.Next(); len(m) > 0 || ok {
			t.Errorf("%s: Next behind the last: %q, %v", what, m, ok)
		}
	}
}

// TestTakeErrors: P22.9: each error ahead of the next, and that a refused packet changes nothing.
func TestTakeErrors(t *testing.T) {
	for _, c := range []struct {
		what   string
		packet []byte
		want   api.Errno
	}{
		{"nothing", nil, api.ErrLinkPacket}, {"an empty list", []byte{}, api.ErrLinkPacket}, {"an empty body", framed(), api.ErrLinkPacket}, {"a body without its frame", dataBody(3, 2, "b"), api.ErrLinkPacket}, {"a byte behind", append(data(3, 2, "b"), 0), api.ErrLinkPacket},
		{"an answer", answer(3, 2, 0), api.ErrLinkPacket}, {"an answer of another lane", answer(4, 2, 0), api.ErrLinkPacket}, {"no lane", data(24, 2, "b"), api.ErrLinkPacket}, {"the number 0", data(3, 0, "b"), api.ErrLinkPacket}, {"of another lane, the number 0", data(4, 0, "b"), api.ErrLinkPacket},
		{"a number above the greatest", data(3, 1<<30+1, "b"), api.ErrLinkPacket}, {"a message that is too long", data(3, 2, strings.Repeat("b", 4097)), api.ErrLinkPacket}, {"a number that is longer than it need be", framed(hex("44 03 82 00 62")...), api.ErrLinkPacket}, {"a lane that is longer than it need be", framed(hex("44 83 00 02 62")...), api.ErrLinkPacket},
		{"another lane", data(4, 2, "b"), api.ErrLinkLane}, {"lane 0", data(0, 2, "b"), api.ErrLinkLane}, {"lane 23", data(23, 2, "b"), api.ErrLinkLane}, {"of another lane, beyond the window", data(2, 99, "b"), api.ErrLinkLane},
	} {
		r := newReceiver(3, 4)
		r.Tell(7)
		take(t, "P22.9", r, data(3, 1, "a"), 2, 7)
		take(t, "P22.9", r, data(3, 3, "c"), 2, 7)
		got, e := r.Take(c.packet)
		want(t, "P22.9: "+c.what, e, c.want)
		want(t, "P22.9: bytes beside the error of "+c.what, len(got), 0)
		want(t, "P22.12: behind "+c.what, bodies(r.Answer()), bodies(answer(3, 2, 7)))
		wantReady(t, "P22.10: behind "+c.what, r, "a")
		take(t, "P22.9: behind "+c.what, r, data(3, 2, "right"), 4, 7)
		wantReady(t, "P22.10: behind "+c.what, r, "right", "c")
	}
}

// TestTakeNumbers: P22.9: every number around the window, for each window: below, the wanted one, up to the window's end, above it.
func TestTakeNumbers(t *testing.T) {
	for window := 1; window <= 16; window++ {
		for number := 1; number <= 24; number++ {
			what := fmt.Sprintf("P22.9: window %d, number %d", window, number)
			r := newReceiver(3, window)
			for w := 1; w <= 4; w++ {
				take(t, what, r, data(3, w, fmt.Sprint(w)), w+1, 0)
			}
			wantReady(t, what, r, "1", "2", "3", "4")
			next := 5
			if number == 5 {
				next = 6
			}
			take(t, what, r, data(3, number, "new"), next, 0)
			take(t, what, r, data(3, number, "again"), next, 0)
			kept := number >= 5 && number < 5+window
			var ready []string
			for w := 5; w < number && kept; w++ {
				take(t, what, r, data(3, w, fmt.Sprint(w)), w+1+one(w+1 == number), 0)
				ready = append(ready, fmt.Sprint(w))
			}
			if kept {
				ready = append(ready, "new")
			}
			wantReady(t, what, r, ready...)
			want(t, what+": wanted", bodies(r.Answer()), bodies(answer(3, 5+len(ready), 0)))
		}
	}
}

func one(yes bool) int {
	if yes {
		return 1
	}
	return 0
}

// TestTakeGap: P22.9, P22.10: what came ahead of its turn becomes ready at once with what fills the gap; Next gives in order, once.
func TestTakeGap(t *testing.T) {
	r := newReceiver(3, 5)
	take(t, "P22.9: 4", r, data(3, 4, "d"), 1, 0)
	take(t, "P22.9: 2", r, data(3, 2, "b"), 1, 0)
	take(t, "P22.9: 5", r, data(3, 5, ""), 1, 0)
	take(t, "P22.9: 6, beyond the window", r, data(3, 6, "f"), 1, 0)
	wantReady(t, "P22.10", r)
	take(t, "P22.9: 4 again, with other bytes", r, data(3, 4, "other"), 1, 0)
	take(t, "P22.9: 1", r, data(3, 1, "a"), 3, 0)
	if m, ok := r.Next(); string(m) != "a" || !ok {
		t.Errorf("P22.10: Next: %q, %v", m, ok)
	}
	take(t, "P22.9: 1 again", r, data(3, 1, "other"), 3, 0)
	take(t, "P22.9: 2 again", r, data(3, 2, "other"), 3, 0)
	take(t, "P22.9: 3 fills the gap", r, data(3, 3, "c"), 6, 0)
	take(t, "P22.9: 3 again", r, data(3, 3, "other"), 6, 0)
	wantReady(t, "P22.10", r, "b", "c", "d", "")
	take(t, "P22.9: 6", r, data(3, 6, "f"), 7, 0)
	wantReady(t, "P22.10", r, "f")
}

// TestTakeOnward: P22.9: the window goes on with what becomes ready, whether it was given or not.
func TestTakeOnward(t *testing.T) {
	const many = 100000
	r := newReceiver(3, 1)
	for n := 1; n <= many; n++ {
		if _, e := r.Take(data(3, n, fmt.Sprint(n))); e != api.OK {
			t.Fatalf("P22.9: Take of %d: %d", n, e)
		}
	}
	want(t, "P22.12", bodies(r.Answer()), bodies(answer(3, many+1, 0)))
	for n := 1; n <= many; n++ {
		if m, ok := r.Next(); string(m) != fmt.Sprint(n) || !ok {
			t.Fatalf("P22.10: Next: %q, %v, want %d", m, ok, n)
		}
	}
	wantReady(t, "P22.10: all are given", r)
}

// TestTakeEnd: P22.9: the last numbers.
func TestTakeEnd(t *testing.T) {
	r := link.ReceiverAt(3, 16, 1<<30-3)
	take(t, "P22.9: the last", r, data(3, 1<<30, "z"), 1<<30-2, 0)
	take(t, "P22.9: the last but one", r, data(3, 1<<30-1, "y"), 1<<30-2, 0)
	take(t, "P22.9: the last but two", r, data(3, 1<<30-2, "x"), 1<<30+1, 0)
	wantReady(t, "P22.10: at the end", r, "x", "y", "z")
	take(t, "P22.9: the last again", r, data(3, 1<<30, "other"), 1<<30+1, 0)
	r.Tell(1 << 30)
	take(t, "P22.9: the first again", r, data(3, 1, "other"), 1<<30+1, 1<<30)
	wantReady(t, "P22.10: at the end", r)
	if _, e := r.Take(data(3, 1<<30+1, "more")); e != api.ErrLinkPacket {
		t.Errorf("P22.1: the number behind the last: %d", e)
	}
	s := link.SenderAt(3, 1, 1<<30)
	want(t, "P22.6: the answer at the end", s.Ack(r.Answer()), api.OK)
	want(t, "P22.7: the word at the end", s.Word(), 1<<30)
}

// TestTell: P22.11: below, at and above the old word, above MaxNum, below 0.
func TestTell(t *testing.T) {
	r := newReceiver(3, 2)
	for _, c := range []struct{ word, want int }{
		{0, 0}, {-1, 0}, {math.MinInt, 0}, {1, 1}, {1, 1}, {0, 1}, {5, 5}, {4, 5}, {-5, 5}, {6, 6}, {127, 127}, {128, 128}, {1<<30 - 1, 1<<30 - 1}, {128, 1<<30 - 1}, {1 << 30, 1 << 30}, {1<<30 + 1, 1 << 30}, {math.MaxInt, 1 << 30}, {math.MinInt, 1 << 30}, {1, 1 << 30},
	} {
		r.Tell(c.word)
		want(t, fmt.Sprintf("P22.11: Tell(%d)", c.word), bodies(r.Answer()), bodies(answer(3, 1, c.want)))
	}
	for _, word := range []int{1<<30 + 1, 1 << 31, 1<<32 + 5, math.MaxInt} {
		r := newReceiver(3, 2)
		r.Tell(word)
		want(t, fmt.Sprintf("P22.11: Tell(%d) at first", word), bodies(r.Answer()), bodies(answer(3, 1, 1<<30)))
	}
}

// TestAnswer: P22.12: it changes nothing, however often it is asked for.
func TestAnswer(t *testing.T) {
	r := newReceiver(3, 3)
	take(t, "P22.9", r, data(3, 1, "a"), 2, 0)
	take(t, "P22.9", r, data(3, 3, "c"), 2, 0)
	r.Tell(300)
	for range 3 {
		want(t, "P22.12", bodies(r.Answer()), "410302AC02")
	}
	wantReady(t, "P22.10", r, "a")
	take(t, "P22.9", r, data(3, 2, "b"), 4, 300)
	wantReady(t, "P22.10", r, "b", "c")
}
