package ether_test

import (
	"bytes"
	"fmt"
	"math/bits"
	"testing"

	"eddy/api"
	"eddy/pen"
)

// A journal writes down what happened at a network, by the answers of its calls alone: what P23.7 to P23.9 promise is looked for in it.
type journal struct {
	network
	cases                                    map[string]int
	sent                                     []api.Flight
	out                                      []api.Flight
	copies                                   map[string]int // of packets like this one
	copied, delivered, dropped, flips, steps int
}

func newJournal(n network) *journal {
	return &journal{network: n, cases: map[string]int{}, copies: map[string]int{}}
}

// make makes a call and writes down what came of it.
func (j *journal) make(c call) {
	j.steps++
	in := j.List()
	f, e, ok := c.on(j.network)
	if e != api.OK {
		return
	}
	switch c.what {
	case "send":
		j.sent = append(j.sent, api.Flight{From: c.a, To: c.b, Data: bytes.Clone(c.data)})
	case "copy":
		j.copied++
		j.copies[tell(in[c.a])]++
	case "deliver":
		if ok {
			j.delivered++
			j.out = append(j.out, f)
		}
	case "drop":
		if ok {
			j.dropped++
		}
	case "flip":
		if ok {
			j.flips++
		}
	}
}

// apart counts the bits in which two packets differ; 1 << 30, if they differ otherwise.
func apart(f, g api.Flight) int {
	if f.From != g.From || f.To != g.To || len(f.Data) != len(g.Data) {
		return 1 << 30
	}
	sum := 0
	for k := range f.Data {
		sum += bits.OnesCount8(f.Data[k] ^ g.Data[k])
	}
	return sum
}

// wantFromSomewhere holds every packet against those that were sent.
func (j *journal) wantFromSomewhere(t *testing.T, all []api.Flight) {
	t.Helper()
	for _, f := range all {
		least := 1 << 30
		for _, s := range j.sent {
			least = min(least, apart(f, s))
		}
		if least > j.flips {
			t.Fatalf("P23.7: behind %d calls, with %d flips, %s differs in %d bits from all that was sent", j.steps, j.flips, tell(f), least)
		}
		if least > 0 {
			j.cases["spoilt"]++
		}
	}
}

// wantNoneLost holds the numbers against each other.
func (j *journal) wantNoneLost(t *testing.T) {
	t.Helper()
	flying := len(j.List())
	want(t, fmt.Sprintf("P23.8: sent and copied behind %d calls", j.steps), len(j.sent)+j.copied, j.delivered+j.dropped+flying)
	if flying > mostFlights {
		t.Errorf("P23.8: %d packets are in flight", flying)
	}
	if flying == mostFlights {
		j.cases["full"]++
	}
}

// numbered draws calls whose packets are told from one another by their first bytes.
type numbered struct {
	drawer
	count int
}

func (d *numbered) next(n network, kinds ...string) call {
	c := d.drawer.next(n, kinds...)
	if c.what == "send" && len(c.data) <= d.most {
		d.count++
		c.data = append([]byte{byte(d.count), byte(d.count / 256)}, c.data...)
	}
	return c
}

// TestNothingFromNowhere: P23.7 and P23.8 with all calls.
func TestNothingFromNowhere(t *testing.T) {
	cases := map[string]int{}
	for seed := range 120 {
		d := &numbered{drawer: drawer{Pen: pen.Seeded(seed), machines: seed%7 + 2, most: 5}}
		j := newJournal(made(d.machines))
		for range 100 {
			j.make(d.next(j, "send", "send", "send", "deliver", "drop", "copy", "flip"))
			j.wantFromSomewhere(t, j.List())
			j.wantNoneLost(t)
		}
		j.wantFromSomewhere(t, j.out)
		cases["delivered"] += j.delivered
		cases["flips"] += j.flips
		cases["spoilt"] += j.cases["spoilt"]
	}
	wantCases(t, cases, map[string]int{"delivered": 1000, "flips": 1000, "spoilt": 5000})
}

// TestUnspoilt: without a Flip what comes out is what was sent, and comes out as often as it was copied and once more at most.
func TestUnspoilt(t *testing.T) {
	cases := map[string]int{}
	for seed := range 150 {
		d := &numbered{drawer: drawer{Pen: pen.Seeded(seed), machines: seed%7 + 2, most: 5}}
		j := newJournal(made(d.machines))
		for range 100 {
			j.make(d.next(j, "send", "send", "send", "deliver", "deliver", "drop", "copy"))
			j.wantFromSomewhere(t, j.List())
			j.wantNoneLost(t)
		}
		seen := map[string]int{}
		for _, f := range append(j.out, j.List()...) {
			seen[tell(f)]++
			if seen[tell(f)] > 1+j.copies[tell(f)] {
				t.Fatalf("P23.7: seed %d: %s comes out %d times, and was copied %d times", seed, tell(f), seen[tell(f)], j.copies[tell(f)])
			}
			if seen[tell(f)] > 1 {
				cases["twice"]++
			}
		}
		for _, s := range j.sent {
			if seen[tell(s)] == 0 {
				cases["lost"]++
			}
		}
		cases["spoilt"] += j.cases["spoilt"]
	}
	want(t, "P23.7: spoilt without a Flip", cases["spoilt"], 0)
	wantCases(t, cases, map[string]int{"twice": 700, "lost": 300})
}

// TestOnceAtMost: what was never copied comes out once, or is lost, or is in flight still.
func TestOnceAtMost(t *testing.T) {
	for seed := range 150 {
		d := &numbered{drawer: drawer{Pen: pen.Seeded(seed), machines: 4, most: 5}}
		j := newJournal(made(4))
		for range 100 {
			j.make(d.next(j, "send", "send", "deliver", "drop"))
		}
		seen := map[string]bool{}
		for _, f := range append(j.out, j.List()...) {
			if seen[tell(f)] {
				t.Fatalf("P23.7: seed %d: %s comes out twice", seed, tell(f))
			}
			seen[tell(f)] = true
		}
		j.wantFromSomewhere(t, append(j.out, j.List()...))
		want(t, "P23.8: what came out, is lost, or flies", len(j.sent), len(seen)+j.dropped)
	}
}

// TestNothingIsLostWhenFull: P23.8 where more is sent and copied than there is room for.
func TestNothingIsLostWhenFull(t *testing.T) {
	full := 0
	for seed := range 8 {
		d := &numbered{drawer: drawer{Pen: pen.Seeded(seed), machines: 5, most: 1}}
		j := newJournal(made(5))
		for range 800 {
			j.make(d.next(j, "send", "send", "send", "send", "copy", "copy", "copy", "deliver", "drop"))
			j.wantNoneLost(t)
		}
		full += j.cases["full"]
	}
	wantCases(t, map[string]int{"full": full}, map[string]int{"full": 300})
}

// TestInOrder: if packet 0 alone is delivered, all come out in the order in which they were sent, whenever they are.
func TestInOrder(t *testing.T) {
	for seed := range 60 {
		d := &numbered{drawer: drawer{Pen: pen.Seeded(seed), machines: 6, most: 3}}
		j := newJournal(made(6))
		for range d.Between(1, 700) {
			c := call{what: "deliver"}
			if d.Below(seed%4+2) > 0 {
				c = d.next(j, "send")
			}
			j.make(c)
		}
		for len(j.List()) > 0 {
			j.make(call{what: "deliver"})
		}
		want(t, fmt.Sprintf("P23.9: seed %d", seed), tell(j.out...), tell(j.sent...))
	}
}

// TestAllInOrder: a network that is full to the last packet, again and again.
func TestAllInOrder(t *testing.T) {
	e := made(2)
	for round := range 3 {
		for k := range mostFlights {
			want(t, "P23.2: Send", e.Send(k%2, 1-k%2, []byte{byte(round), byte(k)}), api.OK)
		}
		for k := range mostFlights {
			f, ok := e.Deliver(0)
			want(t, "P23.9: Deliver(0)", fmt.Sprint(tell(f), ok), fmt.Sprintf("%d>%d:%02x%02xtrue", k%2, 1-k%2, round, k))
		}
	}
}
