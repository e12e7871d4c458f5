package link_test

import (
	"testing"

	"eddy/api"
	"eddy/link"
)

// TestExampleOne: the chapter's first example.
func TestExampleOne(t *testing.T) {
	s := newSender(3, 2)
	for _, m := range []string{"a", "", "bc"} {
		want(t, "Put", s.Put([]byte(m)), api.OK)
	}
	want(t, "Open", s.Open(), 3)
	want(t, "Tick", bodies(s.Tick()...), "44030161 440302")
	ack := func(body string, e api.Errno, open, word int) {
		t.Helper()
		want(t, "Ack of "+body, s.Ack(framed(hex(body)...)), e)
		want(t, "Open behind "+body, s.Open(), open)
		want(t, "Word behind "+body, s.Word(), word)
	}
	ack("41 03 02 07", api.OK, 2, 7)
	want(t, "Tick", bodies(s.Tick()...), "440302 4403036263")
	ack("41 03 01 09", api.OK, 2, 9)
	ack("41 03 05 00", api.ErrLinkNumber, 2, 9)
	ack("41 04 02 00", api.ErrLinkLane, 2, 9)
	for _, body := range []string{"44 03 01 61", "41 03 02", "41 03 02 00 00", "41 83 00 02 00"} {
		ack(body, api.ErrLinkPacket, 2, 9)
	}
}

// TestExampleTwo: the chapter's second example.
func TestExampleTwo(t *testing.T) {
	r := newReceiver(3, 2)
	take := func(number int, message, answer string) {
		t.Helper()
		got, e := r.Take(data(3, number, message))
		want(t, "Take", e, api.OK)
		want(t, "the answer", bodies(got), answer)
	}
	next := func(message string, ok bool) {
		t.Helper()
		got, gotOk := r.Next()
		want(t, "Next", string(got), message)
		want(t, "Next", gotOk, ok)
	}
	take(2, "two", "41030100")
	next("", false)
	take(4, "four", "41030100")
	take(1, "one", "41030300")
	next("one", true)
	next("two", true)
	next("", false)
	r.Tell(5)
	r.Tell(4)
	take(1, "one", "41030305")
	next("", false)
}

// TestExampleThree: the chapter's third example.
func TestExampleThree(t *testing.T) {
	for _, c := range []struct {
		body   string
		lane   int
		answer bool
		ok     bool
	}{
		{"41 03 02 00", 3, true, true}, {"44 18 01", 0, false, false}, {"44 00 00 61", 0, false, false},
	} {
		lane, answer, ok := link.Lane(framed(hex(c.body)...))
		want(t, "the lane of "+c.body, lane, c.lane)
		want(t, c.body+" is an answer", answer, c.answer)
		want(t, c.body+" is a packet", ok, c.ok)
	}
}
