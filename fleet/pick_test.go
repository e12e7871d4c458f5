package fleet_test

import (
	"math"
	"testing"

	"eddy/api"
)

// comes gives the lines that let n messages of an edge come in and all packets that are in flight with them, when nothing else is in flight.
func comes(edge string, n int) []string {
	lines := []string{"tick " + edge}
	for range 2*n + 1 {
		lines = append(lines, "deliver 0 = yes")
	}
	return append(lines, "deliver 0 = no")
}

// joined lays lines one behind the other: a line, or several.
func joined(parts ...any) []string {
	var all []string
	for _, p := range parts {
		switch x := p.(type) {
		case string:
			all = append(all, x)
		case []string:
			all = append(all, x...)
		}
	}
	return all
}

// TestTell: a record that is worked counts, whatever becomes of it; one that is looked at, and a marker, do not.
func TestTell(t *testing.T) {
	k := kindOf(chain(), "a=1 | b=2", 0, 1, 1).with(2)
	inModes(t, "P24.5", allModes, k, joined("0.0", "0.0", comes("0", 2), "1.0 = step", "tick 0 = 1", "flights = 1>0 answer 0 wants 3 word 1", "1.0 = step", "1.0 = empty", "tick 0 = 1", "flights = 1>0 answer 0 wants 3 word 1, 1>0 answer 0 wants 3 word 2")...)
	// One that finds no room stays, and isn't counted.
	inModes(t, "P24.5", allModes, k.with(1).at("0 / 0 / 0", "/ z=9", ""), joined("0.0", comes("0", 1), "1.0 = block", "1.0 = block", "tick 0 = 1", "flights = 1>0 answer 0 wants 2 word 0", "deliver 0", "0.0 = block", "2.0 = step", "1.0 = step", "tick 0 = 1", "flights = 1>0 answer 0 wants 2 word 1")...)
	// Start's records count; each answer tells the word as it is then.
	inModes(t, "P24.5", allModes, k.with(8).at("0 / 0 / 0", "x=7 | y=8 /", ""), "1.0", "0.0", "tick 0 = 2", "1.0", "deliver 0", "flights = 1>0 answer 0 wants 1 word 1, 1>0 answer 0 wants 2 word 2", "1.0 = step", "tick 0 = 2", "flights = 1>0 answer 0 wants 1 word 1, 1>0 answer 0 wants 2 word 2, 0>1 data 0.1 a=1, 1>0 answer 0 wants 2 word 3")
	// Markers: those that are first, those that are pulled, and records that are looked at for a log.
	inModes(t, "P24.5", allModes, k, joined("trigger", "0.0", "0.0", comes("0", 2), "1.0 = mark", "tick 0 = 1", "flights = 1>0 answer 0 wants 3 word 0")...)
	inModes(t, "P24.5", "overtaking", k, joined("0.0", "0.0", "trigger", "0.0", comes("0", 3), "1.0 = mark", "here = 2 1", "tick 0 = 1", "flights = 1>0 answer 0 wants 4 word 0", "1.0 = step", "tick 0 = 1", "flights = 1>0 answer 0 wants 4 word 0, 1>0 answer 0 wants 4 word 1")...)
}

// TestTellOfWhatIsNotSentOn: a record that an operator lets go is worked too, and so is one that a sink takes.
func TestTellOfWhatIsNotSentOn(t *testing.T) {
	k := kindOf(filters(), "a=0 | b=0", 0, 5, 0).with(8)
	inModes(t, "P24.5", allModes, k, joined("0.0", "0.0", comes("0", 2), "1.0 = step", "1.0 = step", "tick 0 = 1", "flights = 5>0 answer 0 wants 3 word 2", "tick 1 = 1", "flights = 5>0 answer 0 wants 3 word 2, 0>5 answer 1 wants 1 word 0")...)
	inModes(t, "P24.5", allModes, kindOf(line(), "", 6, 7).at("0 / 0", "x=1 | y=2 | z=3", ""), "1.0", "1.0", "tick 0 = 1", "flights = 7>6 answer 0 wants 1 word 2", "1.0 = step", "tick 0 = 1", "flights = 7>6 answer 0 wants 1 word 2, 7>6 answer 0 wants 1 word 3")
}

// TestHeldPorts: in mode Aligned nothing is taken at a port that is closed, and its word stays.
func TestHeldPorts(t *testing.T) {
	k := kindOf(pair(), "a=1 / x=1 | y=2", 0, 1, 2, 2).with(4)
	lines := joined("trigger", "0.0 = mark", "1.0 = mark", "0.0 = step", "1.0 = step", comes("0", 2), comes("1", 2), "2.0 = mark", "2.0 = held", "tick 0 = 1", "flights = 2>0 answer 0 wants 3 word 0", "deliver 0", "2.1 = mark", "2.0 = step", "2.1 = step", "2.1 = empty", "tick 0 = 1", "tick 1 = 1", "flights = 2>0 answer 0 wants 3 word 1, 2>1 answer 1 wants 3 word 1")
	inModes(t, "P24.6", "aligned", k, lines...)
	// A port whose lane is empty, or to which something is on its way, is held as well.
	inModes(t, "P24.6", "aligned", k, joined("trigger", "0.0", comes("0", 1), "2.0 = mark", "0.0 = step", "2.0 = held", "tick 0 = 2", "2.0 = held", "deliver 0", "2.0 = held", "here = 1 0 0")...)
	inModes(t, "P24.6", "recorded overtaking", k, joined("trigger", "0.0", comes("0", 1), "2.0 = mark", "0.0 = step", "2.0 = empty", "tick 0 = 2", "2.0 = empty", "deliver 0", "2.0 = step")...)
}

// TestPickTakesWhatHasComeIn: of what is on its way nothing is taken, be it a record or a marker, in flight or not.
func TestPickTakesWhatHasComeIn(t *testing.T) {
	k := kindOf(line(), "a=1 | b=2", 0, 1).with(3)
	inModes(t, "P24.6", allModes, k, "0.0", "1.0 = empty", "tick 0", "1.0 = empty", "deliver 1", "1.0 = empty", "deliver 0", "1.0 = step", "1.0 = empty")
	inModes(t, "P24.6", allModes, k, "trigger", "0.0 = mark", "1.0 = empty", "tick 0", "1.0 = empty", "deliver 0", "1.0 = mark", "1.0 = empty")
	// A message ahead of its turn has not come in.
	inModes(t, "P24.6", allModes, k, "0.0", "0.0", "tick 0 = 3", "deliver 1", "here = 0", "1.0 = empty", "deliver 0", "here = 2", "1.0 = step", "1.0 = step")
	inModes(t, "P24.6", allModes, k, "0.0", "trigger", "0.0", "0.0", "tick 0 = 4", "deliver 2", "deliver 1", "1.0 = empty", "config = 2 / 0 # a=1 | b=2 #", "deliver 0", "here = 3")
}

// TestPulledMarkers: in mode Overtaking a marker that has come in is pulled from behind the records that have come in; in the others it waits its turn.
func TestPulledMarkers(t *testing.T) {
	k := kindOf(line(), "a=1 | b=2 | c=3", 0, 1).with(3).at("0 / 0", "z=9", "")
	inModes(t, "P24.6", "overtaking", k, "0.0", "trigger", "0.0 = mark", "0.0", "tick 0 = 4", "1.0 = step", "deliver 0", "1.0 = step", "config = 2 / 2 # b=2 # z=9 | a=1", "deliver 1", "1.0 = empty", "deliver 0", "here = 2", "1.0 = mark", "here = 1",
		"post = ack", "post = ready: 1 77 {1} {2 [] <z=9 | a=1>}")
	inModes(t, "P24.6", "overtaking", k, "0.0", "trigger", "0.0 = mark", "0.0", "tick 0 = 4", "deliver 0", "1.0 = step", "here = 1", "deliver 0", "here = 2", "1.0 = mark", "here = 1", "config = 2 / 1 # a=1 | b=2 # z=9", "post", "post = ready: 1 77 {1} {1 [a=1] <z=9>}", "1.0 = step", "1.0 = empty")
	inModes(t, "P24.6", "overtaking", k, "0.0", "0.0", "trigger", "0.0 = mark", "tick 0 = 4", "deliver 2", "deliver 1", "1.0 = step", "1.0 = empty", "deliver 0", "here = 3", "1.0 = mark", "here = 2", "post", "post = ready: 1 77 {2} {1 [a=1 | b=2] <z=9>}", "1.0 = step", "1.0 = step")
	inModes(t, "P24.6", slowModes, k, "0.0", "trigger", "0.0 = mark", "0.0", "tick 0 = 4", "deliver 0", "deliver 0", "here = 3", "1.0 = step", "1.0 = step", "1.0 = mark", "post", "post = ready: 1 77 {1} {2 [] <z=9 | a=1>}")
	// The oldest one of several.
	inModes(t, "P24.6", "overtaking", k, "0.0", "trigger", "0.0", "abort", "trigger", "0.0", "tick 0", "deliver 0", "deliver 0", "deliver 0", "here = 4", "1.0 = mark", "1.0 = mark", "1.0 = step",
		"trail = step 0.0, trigger 1, mark 0.0 1, copy 0 1, part 0 1, abort 1, trigger 2, mark 0.0 2, copy 0 2, part 0 2, mark 1.0 1, copy 1 1, part 1 1, mark 1.0 2, copy 1 2, part 1 2, step 1.0")
}

// TestLogsOfFarPorts: what comes in between a copy and the marker is in the log.
func TestLogsOfFarPorts(t *testing.T) {
	k := kindOf(pair(), "a=1 | b=2 / x=1 | y=2 | z=3", 0, 1, 2, 2).with(4)
	puts := joined("1.0", "1.0", "trigger", "0.0 = mark", "1.0 = mark", "1.0", comes("0", 1))
	lead := joined(puts, comes("1", 4))
	// The copy with the marker at port 0; behind it x and y at port 1.
	inModes(t, "P24.6", "recorded", k, joined(lead, "2.0 = mark", "2.1 = step", "2.1 = step", "2.1 = mark", "3.0 = mark", "post", "post", "post", "post = ready: 1 77 {0} {2} {0 [] [x=1 | y=2]} {0 []}")...)
	inModes(t, "P24.6", "overtaking", k, joined(lead, "2.0 = mark", "2.1 = mark", "3.0 = mark", "post", "post", "post", "post = ready: 1 77 {0} {2} {0 [] [x=1 | y=2]} {0 []}", "2.1 = step", "2.1 = step", "2.1 = step")...)
	inModes(t, "P24.6", "overtaking", k, joined(puts, "tick 1 = 5", "deliver 0", "2.0 = mark", "2.1 = step", "deliver 0", "deliver 0", "deliver 0", "here = 0 3 2", "2.1 = mark", "here = 0 2 2", "3.0 = mark", "post", "post", "post", "post = ready: 1 77 {0} {2} {0 [] [x=1 | y=2]} {0 []}")...)
	inModes(t, "P24.6", "aligned", k, joined(lead, "2.0 = mark", "2.1 = step", "2.1 = step", "2.1 = mark", "3.0 = step", "3.0 = step", "3.0 = mark", "post", "post", "post", "post = ready: 1 77 {0} {2} {0 [] []} {2 [] <x=1 | y=2>}")...)
}

// TestFarBackPort: a head's back port, at another machine than the tail.
func TestFarBackPort(t *testing.T) {
	k := kindOf(loop(), "a=1 | b=2", 0, 0, 1, 1).with(4)
	lead := joined("0.0", "1.0 = step", comes("1", 1), "2.0 = step", comes("2", 1), "config = 1 / 0 / 0 / 0 # / / a=1@1 / #", "trigger", "0.0 = mark", "1.0 = mark", "here = 0 0 1 0")
	inModes(t, "P24.6", slowModes, k, joined(lead, "1.1 = step", comes("1", 2), "2.0 = mark", "3.0 = mark", "1.1 = empty", comes("2", 1), "1.1 = mark", "post", "post", "post", "post = ready: 1 77 {1} {0 [] [a=1@1]} {0 []} {0 []}")...)
	inModes(t, "P24.6", "overtaking", k, joined(lead, comes("1", 1), "2.0 = mark", "3.0 = mark", comes("2", 1), "1.1 = mark", "post", "post", "post", "post = ready: 1 77 {1} {0 [] [a=1@1]} {0 []} {0 []}", "1.1 = step")...)
}

// TestPicksOfNothing: of no task and at no port, whatever is in flight.
func TestPicksOfNothing(t *testing.T) {
	f := kindOf(loop(), "a=1", 0, 1, 2, 3).open(t)
	for _, c := range []call{picked(-1, 0), picked(4, 0), picked(0, 1), picked(0, -1), picked(1, 2), picked(2, 1), picked(3, 1), picked(math.MinInt, 0), picked(math.MaxInt, math.MaxInt), picked(1, math.MinInt)} {
		if did := f.Pick(c.A, c.B); did != api.DidNothing {
			t.Errorf("P24.6: %v answers %s", c, didTold(did))
		}
	}
	if len(f.Trail()) != 0 || len(f.Flights()) != 0 {
		t.Error("P24.6: a pick of nothing does something")
	}
}

// TestSnapshots: Trigger, Post and Abort need no network.
func TestSnapshots(t *testing.T) {
	k := kindOf(line(), "a=1", 0, 1).from(4)
	inModes(t, "P24.6", allModes, k, "trigger = 4", "trigger = under", "trail = trigger 4", "flights =", "post = empty", "0.0 = mark", "post = ack", "post = empty", "abort = 4", "abort = none", "trigger = 5", "0.0 = mark", "tick 0 = 3", "deliver 0", "deliver 0", "1.0 = mark", "1.0 = mark", "post = ack", "post = ready: 5 77 {0} {0 []}", "post = empty", "abort = none",
		"trail = trigger 4, mark 0.0 4, copy 0 4, part 0 4, abort 4, trigger 5, mark 0.0 5, copy 0 5, part 0 5, mark 1.0 4, copy 1 4, part 1 4, mark 1.0 5, copy 1 5, part 1 5, ready 5")
}

// TestTrail: calls of the network write nothing into it.
func TestTrail(t *testing.T) {
	k := kindOf(line(), "a=1 | b=2", 0, 1)
	inModes(t, "P24.6", allModes, k, "0.0", "tick 0", "copy 0", "flip 0 40", "deliver 0", "deliver 0", "deliver 0", "drop 0", "0.0 = block", "1.0 = step", "1.0 = empty", "tick 0", "deliver 0", "trail = step 0.0, step 1.0", "trigger", "0.0 = mark", "tick 0", "deliver 0", "deliver 0", "deliver 0", "deliver 0", "1.0", "trail = step 0.0, step 1.0, trigger 1, mark 0.0 1, copy 0 1, part 0 1, mark 1.0 1, copy 1 1, part 1 1")
}
