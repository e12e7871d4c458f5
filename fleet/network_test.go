package fleet_test

import (
	"fmt"
	"math"
	"slices"
	"strings"
	"testing"

	"eddy/api"
	"eddy/equal"
	"eddy/pen"
)

// markers gives the lines that put so many markers into the edges that begin at task 0.
func markers(n int) []string {
	var all []string
	for range n {
		all = append(all, "trigger", "0.0 = mark", "abort")
	}
	return all
}

// TestTickOfNoRemoteEdge: 0, and nothing is sent.
func TestTickOfNoRemoteEdge(t *testing.T) {
	k := kindOf(chain(), "a=1 | b=2", 0, 0, 1)
	f := k.open(t)
	f.Pick(0, 0)
	for _, edge := range []int{0, 2, 3, 23, 24, -1, -2, 1 << 32, 1<<32 + 1, math.MinInt, math.MaxInt} {
		if n := f.Tick(edge); n != 0 || len(f.Flights()) != 0 {
			t.Errorf("P24.7: Tick(%d) answers %d, and %d packets are in flight", edge, n, len(f.Flights()))
		}
	}
	for _, machine := range []int{0, 7} {
		inModes(t, "P24.7", allModes, k.on(machine, machine, machine), "0.0", "1.0", "tick 0 = 0", "tick 1 = 0", "flights =")
	}
}

// TestTick: the messages that aren't answered, a window of them at most, in their order, and the answer behind them.
func TestTick(t *testing.T) {
	k := kindOf(line(), "a=1 | b=2", 3, 5).with(4)
	inModes(t, "P24.7", allModes, k, "tick 0 = 1", "flights = 5>3 answer 0 wants 1 word 0")
	inModes(t, "P24.7", allModes, k, "0.0", "tick 0 = 2", "flights = 3>5 data 0.1 a=1, 5>3 answer 0 wants 1 word 0", "tick 0 = 2", "flights = 3>5 data 0.1 a=1, 5>3 answer 0 wants 1 word 0, 3>5 data 0.1 a=1, 5>3 answer 0 wants 1 word 0")
	for _, n := range []int{1, 2, 15, 16, 17, 18, 40} {
		sent := min(n, 16)
		want := ""
		for id := 1; id <= sent; id++ {
			want += fmt.Sprintf("3>5 data 0.%d marker %d, ", id, id)
		}
		inModes(t, "P24.7", allModes, k, joined(markers(n), fmt.Sprint("tick 0 = ", sent+1), "flights = "+want+"5>3 answer 0 wants 1 word 0")...)
	}
	// Behind what is answered.
	inModes(t, "P24.7", allModes, k, joined(markers(18), "tick 0 = 17", "deliver 0", "deliver 0", "deliver 16", "tick 0 = 17", "deliver 33", "tick 0 = 17")...)
	inModes(t, "P24.7", allModes, k, joined(markers(3), "tick 0 = 4", "deliver 0", "deliver 0", "deliver 3", "tick 0 = 2", "flights = 3>5 data 0.3 marker 3, 5>3 answer 0 wants 1 word 0, 5>3 answer 0 wants 2 word 0, 3>5 data 0.3 marker 3, 5>3 answer 0 wants 3 word 0")...)
}

// crowd gives the lines that copy packet 0 till so many are in flight, when there are some.
func crowd(from, to int) []string { return repeated("copy 0 = yes", to-from) }

// flightsLike tells that so many packets are in flight, the last of them these.
func flightsLike(t *testing.T, promise string, s system, count int, last ...string) {
	t.Helper()
	l := s.Flights()
	if len(l) != count {
		t.Errorf("%s: %d packets are in flight, want %d", promise, len(l), count)
	} else if got := flightsTold(l[count-len(last):]); got != strings.Join(last, ", ") {
		t.Errorf("%s: the last packets in flight are %s, want %s", promise, got, strings.Join(last, ", "))
	}
}

// TestTickWithoutRoom: what finds none is lost, and counted.
func TestTickWithoutRoom(t *testing.T) {
	k := kindOf(line(), "a=1 | b=2", 0, 1).with(4)
	for room := range 5 {
		for _, s := range []system{k.open(t), k.model()} {
			for _, l := range joined("0.0", "0.0", "tick 0 = 3", crowd(3, 256-room)) {
				heard(s, l, func(got string) { t.Errorf("P24.7: %s answers %s", l, got) })
			}
			if n := s.Tick(0); n != 3 {
				t.Errorf("P24.7: Tick with room for %d answers %d", room, n)
			}
			last := []string{"0>1 data 0.1 a=1", "0>1 data 0.2 b=2", "1>0 answer 0 wants 1 word 0"}[:min(room, 3)]
			flightsLike(t, "P24.7", s, min(256, 256-room+3), last...)
		}
	}
	inModes(t, "P24.7", allModes, k, joined("0.0", "tick 0", crowd(2, 256), "tick 0 = 2", "tick 0 = 2", "copy 0 = no", "drop 1 = yes", "tick 0 = 2", "copy 0 = no", "here = 0", "deliver 0 = yes", "here = 1")...)
}

// TestDeliver: the packet that is named comes in, and those behind it move up.
func TestDeliver(t *testing.T) {
	k := kindOf(line(), "a=1 | b=2 | c=3", 0, 1).with(4)
	inModes(t, "P24.8", allModes, k, "deliver 0 = no", "deliver -1 = no", "deliver 1 = no", "0.0", "tick 0", "deliver 2 = no", "deliver -1 = no", "deliver 9223372036854775807 = no", "deliver -9223372036854775808 = no", "flights = 0>1 data 0.1 a=1, 1>0 answer 0 wants 1 word 0", "deliver 1 = yes", "deliver 1 = no", "deliver 0 = yes", "flights = 1>0 answer 0 wants 2 word 0")
	inModes(t, "P24.8", allModes, k, "0.0", "0.0", "0.0", "tick 0 = 4", "deliver 0 = yes", "here = 1", "flights = 0>1 data 0.2 b=2, 0>1 data 0.3 c=3, 1>0 answer 0 wants 1 word 0, 1>0 answer 0 wants 2 word 0", "deliver 0", "deliver 0", "here = 3", "flights = 1>0 answer 0 wants 1 word 0, 1>0 answer 0 wants 2 word 0, 1>0 answer 0 wants 3 word 0, 1>0 answer 0 wants 4 word 0")
	// Those that are kept become ready together, in their order.
	inModes(t, "P24.8", allModes, k, "0.0", "0.0", "0.0", "tick 0 = 4", "deliver 2", "here = 0", "deliver 1", "here = 0", "flights = 0>1 data 0.1 a=1, 1>0 answer 0 wants 1 word 0, 1>0 answer 0 wants 1 word 0, 1>0 answer 0 wants 1 word 0", "deliver 0", "here = 3", "1.0", "1.0", "1.0", "config = 3 / 3 # # a=1 | b=2 | c=3")
	// One that comes again is answered, and changes nothing.
	inModes(t, "P24.8", allModes, k, "0.0", "tick 0", "copy 0", "copy 0", "deliver 0", "here = 1", "deliver 1", "here = 1", "1.0", "here = 0", "deliver 1", "here = 0", "flights = 1>0 answer 0 wants 1 word 0, 1>0 answer 0 wants 2 word 0, 1>0 answer 0 wants 2 word 0, 1>0 answer 0 wants 2 word 1")
}

// TestAnswersThatComeIn: the sending end lets go of what is answered; a late one takes nothing back.
func TestAnswersThatComeIn(t *testing.T) {
	k := kindOf(line(), "a=1 | b=2 | c=3", 0, 1)
	inModes(t, "P24.8", allModes, k, "0.0", "tick 0 = 2", "deliver 0", "1.0", "tick 0 = 2", "0.0 = block", "deliver 3 = yes", "0.0 = step", "tick 0 = 2", "flights = 1>0 answer 0 wants 1 word 0, 1>0 answer 0 wants 2 word 0, 0>1 data 0.1 a=1, 0>1 data 0.2 b=2, 1>0 answer 0 wants 2 word 1",
		"deliver 0", "deliver 0", "deliver 0", "tick 0 = 2", "0.0 = block")
}

// TestNoRoomForTheAnswer: a packet that comes in leaves a place, so that its answer always finds one.
func TestNoRoomForTheAnswer(t *testing.T) {
	k := kindOf(line(), "a=1 | b=2", 0, 1).with(4)
	for _, s := range []system{k.open(t), k.model()} {
		for _, l := range joined("0.0", "0.0", "tick 0 = 3", crowd(3, 256), "deliver 1 = yes") {
			heard(s, l, func(got string) { t.Errorf("P24.8: %s answers %s", l, got) })
		}
		flightsLike(t, "P24.8", s, 256, "0>1 data 0.1 a=1", "1>0 answer 0 wants 1 word 0")
		s.Deliver(0)
		flightsLike(t, "P24.8", s, 256, "1>0 answer 0 wants 1 word 0", "1>0 answer 0 wants 3 word 0")
		for s.Deliver(0) {
		}
		if here := s.Here(); !slices.Equal(here, []int{2}) {
			t.Errorf("P24.8: %v are in the lane", here)
		}
	}
}

// TestSpoiltPackets: a packet of which one bit is turned is let go, whatever the bit is, and isn't answered.
func TestSpoiltPackets(t *testing.T) {
	k := kindOf(line(), "a=1", 0, 1)
	for _, at := range []int{0, 1} {
		f := k.open(t)
		f.Pick(0, 0)
		f.Tick(0)
		for bit := range 8 * len(f.Flights()[at].Data) {
			f.Copy(at)
			f.Flip(2, bit)
			if !f.Deliver(2) || len(f.Flights()) != 2 || f.Here()[0] != 0 {
				t.Errorf("P24.8: packet %d with bit %d turned comes in", at, bit)
			}
		}
		if n := f.Tick(0); n != 2 {
			t.Errorf("P24.8: a spoilt answer is taken: Tick answers %d", n)
		}
		if c := f.Config(); len(c.Lanes[0]) != 1 || len(f.Trail()) != 1 {
			t.Errorf("P24.13: spoilt packets have changed something")
		}
	}
}

// TestDropCopyFlip: as the network's calls of these names.
func TestDropCopyFlip(t *testing.T) {
	k := kindOf(line(), "a=1 | b=2", 6, 2).with(4)
	inModes(t, "P24.9", allModes, k, "drop 0 = no", "copy 0 = no", "flip 0 0 = no", "flights =", "0.0", "0.0", "tick 0 = 3", "drop 3 = no", "drop -1 = no", "copy 3 = no", "copy -1 = no", "flip 3 0 = no", "flip -1 0 = no",
		"copy 1 = yes", "flights = 6>2 data 0.1 a=1, 6>2 data 0.2 b=2, 2>6 answer 0 wants 1 word 0, 6>2 data 0.2 b=2", "drop 1 = yes", "flights = 6>2 data 0.1 a=1, 2>6 answer 0 wants 1 word 0, 6>2 data 0.2 b=2", "copy 1 = yes", "drop 0 = yes", "drop 0 = yes", "flights = 6>2 data 0.2 b=2, 2>6 answer 0 wants 1 word 0", "here = 0", "tick 0 = 3")
	// The packet of b has 17 bytes: bits 0 to 135.
	inModes(t, "P24.9", allModes, k, "0.0", "tick 0", "flip 0 -1 = no", "flip 0 136 = no", "flip 0 9223372036854775807 = no", "flights = 6>2 data 0.1 a=1, 2>6 answer 0 wants 1 word 0", "flip 0 135 = yes", "flights = 6>2 spoilt, 2>6 answer 0 wants 1 word 0", "copy 0 = yes", "flip 0 135 = yes", "flights = 6>2 data 0.1 a=1, 2>6 answer 0 wants 1 word 0, 6>2 spoilt", "flip 0 0 = yes", "flip 2 135 = yes", "flights = 6>2 spoilt, 2>6 answer 0 wants 1 word 0, 6>2 data 0.1 a=1")
	inModes(t, "P24.9", allModes, k, joined("tick 0", crowd(1, 256), "copy 0 = no", "copy 255 = no", "copy 256 = no", "flip 255 0 = yes", "drop 255 = yes", "copy 0 = yes", "copy 0 = no", "drop 256 = no")...)
}

// TestBitsAreCountedFromTheLowest: in each byte.
func TestBitsAreCountedFromTheLowest(t *testing.T) {
	f := kindOf(line(), "a=1", 0, 1).open(t)
	f.Tick(0)
	was := f.Flights()[0].Data
	for bit := range 8 * len(was) {
		f.Flip(0, bit)
		want := slices.Clone(was)
		want[bit/8] ^= 1 << (bit % 8)
		if got := f.Flights()[0].Data; !slices.Equal(got, want) {
			t.Errorf("P24.9: with bit %d turned: % x, want % x", bit, got, want)
		}
		f.Flip(0, bit)
	}
}

// TestEdgesBesideOneAnother: each has its own numbers, answers and word.
func TestEdgesBesideOneAnother(t *testing.T) {
	k := kindOf(pair(), "a=1 | b=2 / x=1 | y=2", 0, 1, 2, 0).with(4)
	inModes(t, "P24.7", allModes, k, "0.0", "1.0", "1.0", "tick 0 = 2", "tick 1 = 3", "flights = 0>2 data 0.1 a=1, 2>0 answer 0 wants 1 word 0, 1>2 data 1.1 x=1, 1>2 data 1.2 y=2, 2>1 answer 1 wants 1 word 0",
		"deliver 3", "deliver 2", "here = 0 2 0", "deliver 0", "here = 1 2 0", "2.1", "2.1", "2.0", "drop 0", "drop 0", "flights = 2>1 answer 1 wants 1 word 0, 2>1 answer 1 wants 3 word 0, 2>0 answer 0 wants 2 word 0", "tick 0 = 2", "tick 1 = 3", "tick 2 = 4",
		"flights = 2>1 answer 1 wants 1 word 0, 2>1 answer 1 wants 3 word 0, 2>0 answer 0 wants 2 word 0, 0>2 data 0.1 a=1, 2>0 answer 0 wants 2 word 1, 1>2 data 1.1 x=1, 1>2 data 1.2 y=2, 2>1 answer 1 wants 3 word 2, 2>0 data 2.1 x=1, 2>0 data 2.2 y=2, 2>0 data 2.3 a=1, 0>2 answer 2 wants 1 word 0")
}

// TestHere: records and markers, of remote edges those that have come in, of local ones all.
func TestHere(t *testing.T) {
	k := kindOf(chain(), "a=1 | b=2", 0, 0, 1).with(4).at("0 / 0 / 0", "/ z=9", "")
	inModes(t, "P24.11", allModes, k, "here = 0 1", "0.0", "here = 1 1", "trigger", "0.0 = mark", "here = 2 1", "0.0", "here = 3 1")
	inModes(t, "P24.11", slowModes, k, "0.0", "trigger", "0.0", "1.0", "here = 1 1", "1.0 = mark", "here = 0 1", "tick 1 = 3", "here = 0 1", "deliver 1", "here = 0 1", "deliver 0", "here = 0 3", "2.0", "here = 0 2", "2.0", "here = 0 1", "2.0 = mark", "here = 0 0")
	// A trigger lays markers into control lanes, which aren't told.
	inModes(t, "P24.11", allModes, k, "trigger", "abort", "trigger", "here = 0 1")
}

// TestConfig: what is in a lane, and behind it what is on its way, in flight or lost; without markers.
func TestConfig(t *testing.T) {
	k := kindOf(line(), "a=1 | b=2 | c=3", 0, 1).with(8).at("0 / 1", "y=8", "z=9")
	steps := joined("0.0", "config = 1 / 1 # y=8 | a=1 # z=9", "trigger", "0.0 = mark", "config = 1 / 1 # y=8 | a=1 # z=9", "0.0", "0.0", "config = 3 / 1 # y=8 | a=1 | b=2 | c=3 # z=9")
	inModes(t, "P24.10", slowModes, k, joined(steps, "tick 0 = 5", "drop 2 = yes", "config = 3 / 1 # y=8 | a=1 | b=2 | c=3 # z=9", "deliver 0", "here = 2", "config = 3 / 1 # y=8 | a=1 | b=2 | c=3 # z=9", "deliver 1", "1.0", "config = 3 / 2 # a=1 | b=2 | c=3 # z=9 | y=8", "1.0", "1.0 = empty", "config = 3 / 3 # b=2 | c=3 # z=9 | y=8 | a=1")...)
	inModes(t, "P24.10", "overtaking", k, joined(steps, "tick 0 = 5", "drop 2", "deliver 0", "deliver 0", "here = 3", "1.0 = mark", "config = 3 / 1 # y=8 | a=1 | b=2 | c=3 # z=9", "1.0", "1.0", "1.0 = empty", "config = 3 / 3 # b=2 | c=3 # z=9 | y=8 | a=1")...)
}

// TestNothingButAPickChangesTheConfiguration: as long as no packet is spoilt by more than one flip.
func TestNothingButAPickChangesTheConfiguration(t *testing.T) {
	for seed := range 100 {
		w := seeded(seed)
		k := w.kind()
		f := k.open(t)
		for _, c := range w.script(k, 150) {
			before := f.Config()
			if a := c.of(f); c.What == "pick" && a.Number == api.DidStep {
				continue
			}
			if after := f.Config(); !equal.Config(before, after) {
				t.Fatalf("P24.10: %v: %v changes the configuration %s to %s", k, c, pen.TellConfig(before), pen.TellConfig(after))
			}
		}
	}
}
