package link_test

import (
	"fmt"
	"slices"
	"strings"
	"testing"

	"eddy/api"
	"eddy/link"
	"eddy/pen"
)

// A call is one of the two ends: its name, and the bytes or the number that it is handed.
type call struct {
	what  string
	bytes []byte
	word  int
}

func (c call) String() string {
	switch c.what {
	case "put":
		return fmt.Sprintf("put %d bytes", len(c.bytes))
	case "ack", "take":
		return c.what + " " + bodies(c.bytes[:min(len(c.bytes), 60)])
	case "tell":
		return fmt.Sprintf("tell %d", c.word)
	}
	return c.what
}

// ofSender calls a sending end, and tells all that it answers then.
func (c call) ofSender(s sender) string {
	var e api.Errno
	switch c.what {
	case "put":
		e = s.Put(c.bytes)
	case "ack":
		e = s.Ack(c.bytes)
	default:
		panic("no call of a sending end: " + c.what)
	}
	return fmt.Sprintf("%d: %d open, word %d, %x", e, s.Open(), s.Word(), s.Tick())
}

// ofReceiver calls a receiving end, and tells what it answers, and the answer behind it.
func (c call) ofReceiver(r receiver) string {
	told := ""
	switch c.what {
	case "take":
		b, e := r.Take(c.bytes)
		told = fmt.Sprintf("%x, %d", b, e)
	case "next":
		b, ok := r.Next()
		told = fmt.Sprintf("%x, %v", b, ok)
	case "tell":
		r.Tell(c.word)
	default:
		panic("no call of a receiving end: " + c.what)
	}
	return fmt.Sprintf("%s: %x", told, r.Answer())
}

// playSender lets an end and its model play a script.
func playSender(t *testing.T, lane, window, before int, script []call) {
	t.Helper()
	s, m := sender(newSender(lane, window)), &sending{lane: lane, window: window, before: before}
	if before > 0 {
		s = link.SenderAt(lane, window, before)
	}
	for k, c := range script {
		if got, want := c.ofSender(s), c.ofSender(m); got != want {
			t.Fatalf("P22.4 to P22.7: lane %d, window %d, %d before, %v: call %d: %.300s, want %.300s", lane, window, before, script, k, got, want)
		}
	}
}

func playReceiver(t *testing.T, lane, window, before int, script []call) {
	t.Helper()
	r, m := receiver(newReceiver(lane, window)), &receiving{lane: lane, window: window, before: before}
	if before > 0 {
		r = link.ReceiverAt(lane, window, before)
	}
	for k, c := range script {
		if got, want := c.ofReceiver(r), c.ofReceiver(m); got != want {
			t.Fatalf("P22.9 to P22.12: lane %d, window %d, %d before, %v: call %d: %.300s, want %.300s", lane, window, before, script, k, got, want)
		}
	}
	if got, want := drain(r), drain(m); !slices.Equal(got, want) {
		t.Fatalf("P22.10: lane %d, window %d, %d before, %v: at the end %.300q, want %.300q", lane, window, before, script, got, want)
	}
}

// TestAllShortSenderScripts: all scripts of up to five calls out of these.
func TestAllShortSenderScripts(t *testing.T) {
	calls := []call{
		{what: "put", bytes: []byte("a")}, {what: "put"}, {what: "put", bytes: make([]byte, 4097)},
		{what: "ack", bytes: answer(3, 1, 2)}, {what: "ack", bytes: answer(3, 2, 0)}, {what: "ack", bytes: answer(3, 3, 1)}, {what: "ack", bytes: answer(3, 0, 9)}, {what: "ack", bytes: answer(2, 1, 9)}, {what: "ack", bytes: data(3, 1, "a")},
	}
	for count := range 6 {
		for script := range pen.Rows(calls, count) {
			playSender(t, 3, 1+count%3, 0, script)
		}
	}
}

// TestAllShortReceiverScripts: all scripts of up to five calls out of these.
func TestAllShortReceiverScripts(t *testing.T) {
	calls := []call{
		{what: "take", bytes: data(3, 1, "a")}, {what: "take", bytes: data(3, 2, "b")}, {what: "take", bytes: data(3, 2, "other")}, {what: "take", bytes: data(3, 3, "")}, {what: "take", bytes: data(3, 4, "d")}, {what: "take", bytes: answer(3, 1, 9)}, {what: "take", bytes: data(2, 1, "z")},
		{what: "next"}, {what: "tell", word: 2}, {what: "tell", word: 1},
	}
	for window := 1; window <= 3; window++ {
		for count := range 5 {
			for script := range pen.Rows(calls, count) {
				playReceiver(t, 3, window, 0, script)
			}
		}
	}
	for script := range pen.Rows(calls, 5) {
		playReceiver(t, 3, 2, 0, script)
	}
}

// A drawer draws calls.
type drawer struct {
	*pen.Pen
	lane int
}

func (d *drawer) message() string {
	switch d.Below(40) {
	case 0:
		return strings.Repeat("m", d.Between(4090, 4096))
	case 1:
		return ""
	}
	return string(data(d.Below(24), d.Between(1, 300), "within"))[:d.Below(12)]
}

// anyLane gives this lane, mostly.
func (d *drawer) anyLane() int {
	if d.Below(12) == 0 {
		return d.Below(25)
	}
	return d.lane
}

// near gives a number around another one, mostly.
func (d *drawer) near(n int) int {
	switch d.Below(16) {
	case 0:
		return pen.One(d.Pen, 0, 1, 2, 127, 128, 1<<30-1, 1<<30, 1<<30+1, 1<<30+2)
	case 1:
		return max(0, n+d.Between(-20, 20))
	}
	return max(0, n+d.Between(-3, 3))
}

// spoilt harms bytes, at times.
func (d *drawer) spoilt(b []byte) []byte {
	b = slices.Clone(b)
	switch d.Below(30) {
	case 0:
		return turned(b, d.Below(8*len(b)))
	case 1:
		return b[:d.Below(len(b))]
	case 2:
		return append(b, byte(d.Below(256)))
	case 3:
		k := d.Below(len(b))
		return slices.Delete(b, k, k+1)
	case 4:
		// Within a whole frame.
		body := b[4 : len(b)-4]
		body[d.Below(len(body))] = byte(d.Below(256))
		return framed(body...)
	}
	return b
}

func (d *drawer) data(wanted int) []byte {
	return d.spoilt(data(d.anyLane(), d.near(wanted), d.message()))
}

func (d *drawer) answer(next int) []byte {
	return d.spoilt(answer(d.anyLane(), d.near(next), d.near(d.Below(40))))
}

// before gives how many messages went ahead: none, mostly; or so many that the numbers come to their end.
func (d *drawer) before() int {
	return pen.One(d.Pen, 0, 0, 0, 0, 1<<30-d.Below(30), 120)
}

func (d *drawer) senderScript(before int) []call {
	last := before
	var script []call
	for range d.Between(1, 60) {
		switch d.Below(5) {
		case 0, 1:
			c := call{what: "put", bytes: []byte(d.message())}
			if d.Below(20) == 0 {
				c.bytes = make([]byte, d.Between(4096, 5000))
			}
			last++
			script = append(script, c)
		case 2:
			script = append(script, call{what: "ack", bytes: d.spoilt(data(d.anyLane(), d.near(last), ""))})
		default:
			script = append(script, call{what: "ack", bytes: d.answer(d.Between(max(1, last-8), last+1))})
		}
	}
	return script
}

func (d *drawer) receiverScript(before int) []call {
	wanted := before + 1
	var script []call
	for range d.Between(1, 60) {
		switch d.Below(12) {
		case 0, 1, 2:
			script = append(script, call{what: "next"})
		case 3:
			script = append(script, call{what: "tell", word: d.near(d.Below(40)) - d.Below(2)})
		case 4:
			script = append(script, call{what: "take", bytes: d.answer(wanted)})
		case 5, 6, 7:
			// The one that is likely wanted, so that the window goes on.
			script = append(script, call{what: "take", bytes: data(d.lane, min(wanted, mostNumber), d.message())})
			wanted++
		default:
			script = append(script, call{what: "take", bytes: d.data(wanted)})
		}
	}
	return script
}

// TestDrawnScripts: long scripts, lanes, windows and beginnings as they are drawn.
func TestDrawnScripts(t *testing.T) {
	cases := map[string]int{}
	for seed := range 3000 {
		d := &drawer{Pen: pen.Seeded(seed)}
		d.lane = d.Below(24)
		window, before := d.Between(1, 16), d.before()
		script := d.senderScript(before)
		playSender(t, d.lane, window, before, script)
		count(cases, script, window, before, d.lane)
		script = d.receiverScript(before)
		playReceiver(t, d.lane, window, before, script)
		count(cases, script, window, before, d.lane)
	}
	wantCases(t, cases, map[string]int{"put 0": 1000, "put 211": 1000, "put 215": 1000, "ack 0": 1000, "ack 212": 1000, "ack 213": 1000, "ack 214": 1000, "older answer": 1000, "take 0": 1000, "take 212": 1000, "take 213": 1000, "next": 1000, "no next": 1000, "several at once": 500, "beyond": 500, "kept again": 100})
}

// count counts what comes up in a script, as the models tell it.
func count(cases map[string]int, script []call, window, before, lane int) {
	s, r := &sending{lane: lane, window: window, before: before}, &receiving{lane: lane, window: window, before: before}
	for _, c := range script {
		switch c.what {
		case "put":
			cases[fmt.Sprintf("put %d", s.Put(c.bytes))]++
		case "ack":
			answered := s.answered()
			e := s.Ack(c.bytes)
			cases[fmt.Sprintf("ack %d", e)]++
			if said, _ := understood(c.bytes); e == api.OK && said.number-1 < answered {
				cases["older answer"]++
			}
		case "take":
			w, taken := r.wanted(), len(r.taken)
			_, e := r.Take(c.bytes)
			cases[fmt.Sprintf("take %d", e)]++
			said, _ := understood(c.bytes)
			switch {
			case e == api.OK && r.wanted() > w+1:
				cases["several at once"]++
			case e == api.OK && said.number >= w+window:
				cases["beyond"]++
			case e == api.OK && said.number > w && len(r.taken) == taken:
				cases["kept again"]++
			}
		case "next":
			if _, ok := r.Next(); ok {
				cases["next"]++
			} else {
				cases["no next"]++
			}
		}
	}
}
