package fleet_test

import (
	"fmt"
	"testing"

	"eddy/api"
	"eddy/pen"
)

// tape gives a tape of so many records, a0=0 and so on.
func tape(count int) string {
	s := ""
	for n := range count {
		if n > 0 {
			s += " | "
		}
		s += fmt.Sprint("a", n, "=", n)
	}
	return s
}

// repeated gives a line so many times.
func repeated(line string, count int) []string {
	var all []string
	for range count {
		all = append(all, line)
	}
	return all
}

// TestFull: a remote edge takes as many records as Cap says, whether they have come in or not, and no more till the word comes back.
func TestFull(t *testing.T) {
	for room := 1; room <= api.MaxCap; room++ {
		k := kindOf(line(), tape(20), 0, 1).with(room)
		lines := append(repeated("0.0 = step", room), "0.0 = block", fmt.Sprint("tick 0 = ", room+1), "0.0 = block")
		lines = append(lines, repeated("deliver 0 = yes", room)...)
		// All have come in, and the sending end knows it, but not that any was worked.
		lines = append(lines, fmt.Sprint("here = ", room), "0.0 = block")
		lines = append(append(lines, repeated("deliver 0 = yes", room+1)...), "deliver 0 = no", "tick 0 = 1", "deliver 0 = yes", "0.0 = block")
		// One is worked, and the word of it doesn't come back before an answer does.
		lines = append(lines, "1.0 = step", "0.0 = block", "tick 0 = 1", "0.0 = block", "deliver 0 = yes", "0.0 = step", "0.0 = block")
		// All others are worked, but the latest: one word tells of all.
		lines = append(append(lines, repeated("1.0 = step", room-1)...), "1.0 = empty", "0.0 = block", "tick 0 = 2", "0.0 = block", "deliver 1 = yes")
		lines = append(append(lines, repeated("0.0 = step", room-1)...), "0.0 = block")
		inModes(t, "P24.4", allModes, k, lines...)
	}
}

// TestFullWithStart: what start had in the lane counts till it is worked, and told.
func TestFullWithStart(t *testing.T) {
	k := kindOf(line(), "a=1 | b=2", 0, 1).with(2)
	inModes(t, "P24.4", allModes, k.at("0 / 0", "x=8", ""), "0.0 = step", "0.0 = block", "1.0 = step", "0.0 = block", "tick 0 = 2", "drop 1 = yes", "0.0 = block", "tick 0 = 2", "deliver 2 = yes", "0.0 = step", "0.0 = empty",
		"config = 2 / 1 # a=1 | b=2 # x=8")
	// More than the room: full till fewer are left than that.
	inModes(t, "P24.4", allModes, k.at("0 / 0", "w=5 | x=6 | y=7 | z=8", ""), "0.0 = block", "1.0", "1.0", "tick 0", "deliver 0", "0.0 = block", "1.0", "tick 0", "deliver 0", "0.0 = step", "0.0 = block", "1.0 = step", "1.0 = empty", "tick 0 = 2", "deliver 1", "0.0 = step",
		"config = 2 / 4 # a=1 | b=2 # w=5 | x=6 | y=7 | z=8")
	// Beside it a local edge: the lane itself tells.
	inModes(t, "P24.4", allModes, k.on(1, 1).at("0 / 0", "x=8", ""), "0.0 = step", "0.0 = block", "1.0 = step", "0.0 = step", "0.0 = empty")
}

// TestFullLocal: within one machine a lane is full as long as it holds that many.
func TestFullLocal(t *testing.T) {
	k := kindOf(line(), tape(9), 3, 3)
	inModes(t, "P24.4", allModes, k, "0.0 = step", "0.0 = block", "1.0 = step", "0.0 = step", "tick 0 = 0", "0.0 = block")
	inModes(t, "P24.4", allModes, k.with(3), "0.0 = step", "0.0 = step", "0.0 = step", "0.0 = block", "1.0 = step", "0.0 = step", "0.0 = block", "here = 3")
}

// TestABackEdgeIsNeverFull: near or far.
func TestABackEdgeIsNeverFull(t *testing.T) {
	start := "x=1@0 | x=2@0 | x=3@0 | x=4@0"
	for _, place := range [][]int{{0, 0, 1, 1}, {0, 0, 0, 0}} {
		k := kindOf(loop(), "a=1", place...).at("0 / 0 / 0 / 0", "/ "+start+" / y=1@0 /", "")
		inModes(t, "P24.4", allModes, k, "2.0 = step", "2.0 = step", "2.0 = step", "2.0 = step", "2.0 = empty", "config = 0 / 0 / 0 / 0 # / / y=1@0 | x=1@1 | x=2@1 | x=3@1 | x=4@1 / #")
	}
	far := kindOf(loop(), "a=1", 0, 0, 1, 1).at("0 / 0 / 0 / 0", "/ "+start+" / y=1@0 /", "")
	inModes(t, "P24.4", allModes, far, "2.0", "2.0", "2.0", "2.0", "tick 2 = 5", "here = 0 0 1 0", "deliver 0", "deliver 0", "deliver 0", "deliver 0", "here = 0 0 5 0")
	// The edge from the tail onwards, and that from the head, are as all others.
	inModes(t, "P24.4", allModes, kindOf(loop(), "", 0, 0, 1, 0).at("0 / 0 / 0 / 0", "/ x=1@3 | y=1@3 / / z=1", ""), "2.0 = block", "3.0 = step", "2.0 = block", "tick 3 = 1", "deliver 0", "2.0 = step", "2.0 = block")
}

// TestMarkersIntoAFullEdge: they are put, and count nothing.
func TestMarkersIntoAFullEdge(t *testing.T) {
	k := kindOf(line(), "a=1 | b=2", 0, 1)
	inModes(t, "P24.4", slowModes, k, "0.0 = step", "0.0 = block", "trigger", "0.0 = mark", "0.0 = block", "abort", "trigger", "0.0 = mark", "0.0 = block", "tick 0 = 4", "deliver 0", "deliver 0", "deliver 0", "here = 3",
		"1.0 = step", "1.0 = mark", "1.0 = mark", "1.0 = empty", "deliver 3", "0.0 = block", "tick 0 = 1", "deliver 3", "0.0 = step", "config = 2 / 1 # b=2 # a=1")
	inModes(t, "P24.4", "overtaking", k, "0.0 = step", "trigger", "0.0 = mark", "0.0 = block", "tick 0 = 3", "deliver 0", "deliver 0", "here = 2", "1.0 = mark", "here = 1", "deliver 2", "tick 0 = 1", "deliver 2", "0.0 = block", "1.0 = step", "tick 0 = 1", "deliver 2", "0.0 = step")
	// A lane that holds markers alone has room.
	inModes(t, "P24.4", allModes, k, "trigger", "0.0 = mark", "abort", "trigger", "0.0 = mark", "0.0 = step", "0.0 = block")
}

// TestNoRoomAtOneOfSeveral: nothing is sent anywhere; and where nothing would be sent, no room is asked for.
func TestNoRoomAtOneOfSeveral(t *testing.T) {
	for _, full := range []string{"x=1 / / /", "/ / x=1 /", "/ / / x=1", "x=1 / / x=1 /"} {
		k := kindOf(fork(), "", 0, 1, 2, 3, 3).at("0 / 0 / 0 / 0 / 0", full, "/ /")
		k.start.Lanes[1] = pen.ReadRecords("a=1")
		inModes(t, "P24.6", allModes, k, "3.0 = block", "tick 0 = 1", "tick 2 = 1", "flights = 2>3 answer 0 wants 1 word 0, 0>3 answer 2 wants 1 word 0")
	}
	split := kindOf(splits(), "a=0 | b=1 | c=1", 0, 0, 1, 2)
	inModes(t, "P24.6", allModes, split.with(1), "0.0", "1.0 = step", "0.0", "1.0 = step", "0.0", "1.0 = block", "tick 1 = 2", "tick 2 = 2", "flights = 0>1 data 1.1 a=0, 1>0 answer 1 wants 1 word 0, 0>2 data 2.1 b=1, 2>0 answer 2 wants 1 word 0")
}
