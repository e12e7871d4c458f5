package fleet_test

import (
	"slices"
	"strings"
	"testing"

	"eddy/api"
	"eddy/equal"
	"eddy/fleet"
)

// asks makes calls of a fleet, and fails the test where one answers otherwise; a call that halts must change nothing.
func asks(t *testing.T, f *fleet.Fleet, lines ...string) {
	t.Helper()
	for n, line := range lines {
		config, here, trail := f.Config(), f.Here(), f.Trail()
		heard(f, line, func(got string) {
			t.Errorf("P24.6: %v: it answers %s", lines[:n+1], got)
		})
		if strings.HasSuffix(line, "= halt") && (!equal.Config(config, f.Config()) || !slices.Equal(here, f.Here()) || !slices.Equal(trail, f.Trail())) {
			t.Errorf("P24.6: %v: a pick that halts has changed something", lines[:n+1])
		}
	}
}

// TestNumbersThatAreUsedUp: with MaxNum - MaxId messages put, a remote edge takes no record any more, and markers go on.
func TestNumbersThatAreUsedUp(t *testing.T) {
	k := kindOf(line(), "a=1 | b=2 | c=3", 0, 1).with(2)
	for mode := 1; mode <= 3; mode++ {
		f := k.in(mode).open(t)
		f.Skip(0, 1073731824)
		asks(t, f, "0.0 = step", "0.0 = halt", "0.0 = halt", "config = 1 / 0 # a=1 #", "trigger = 1", "0.0 = mark", "0.0 = halt", "tick 0 = 3", "deliver 0", "deliver 0", "here = 2", "trail = step 0.0, trigger 1, mark 0.0 1, copy 0 1, part 0 1")
		for f.Deliver(0) {
		}
		for f.Pick(1, 0) != api.DidEmpty {
		}
		asks(t, f, "config = 1 / 1 # # a=1", "tick 0 = 1", "deliver 0", "0.0 = halt", "post = ack", "abort = 1", "trigger = 2", "0.0 = mark", "0.0 = halt", "tick 0 = 2")
	}
}

// TestMarkersAreMessagesToo: they count among the numbers that are used up.
func TestMarkersAreMessagesToo(t *testing.T) {
	f := kindOf(line(), "a=1 | b=2", 0, 1).with(8).open(t)
	f.Skip(0, 1073731823)
	asks(t, f, "0.0 = step", "trigger = 1", "0.0 = mark", "0.0 = halt")
	f = kindOf(line(), "a=1 | b=2", 0, 1).with(8).open(t)
	f.Skip(0, 1073731823)
	asks(t, f, "trigger = 1", "0.0 = mark", "0.0 = step", "0.0 = halt")
}

// TestAHaltAheadOfTheRoom: at whichever edge there is none; where nothing is sent, nothing halts.
func TestAHaltAheadOfTheRoom(t *testing.T) {
	f := kindOf(line(), "a=1 | b=2", 0, 1).open(t)
	asks(t, f, "0.0 = step", "0.0 = block")
	f.Skip(0, 1073731824)
	asks(t, f, "0.0 = halt")
	// Edges 0 and 2 lead from the tee to other machines, edge 3 leads to its own.
	for _, edge := range []int{0, 2} {
		k := kindOf(fork(), "a=1 | b=2", 0, 1, 2, 3, 3).at("0 / 0 / 0 / 0 / 0", "/ a=1 | b=2 / /", "/ /")
		f := k.open(t)
		asks(t, f, "3.0 = step", "3.0 = block", "here = 0 1 0 1")
		f.Skip(edge, 1073731824)
		asks(t, f, "3.0 = halt", "here = 0 1 0 1", "4.0 = step", "3.0 = halt")
	}
	split := kindOf(splits(), "a=0 | b=1 | c=0", 0, 0, 1, 2).with(3).open(t)
	split.Skip(1, 1073731825)
	asks(t, split, "0.0", "0.0", "0.0", "1.0 = halt", "config = 3 / 0 / 0 / 0 # a=0 | b=1 | c=0 / / # /")
	split = kindOf(splits(), "a=0 | b=1 | c=0", 0, 0, 1, 2).with(3).open(t)
	split.Skip(2, 1073731825)
	asks(t, split, "0.0", "0.0", "0.0", "1.0 = step", "1.0 = halt", "config = 3 / 0 / 0 / 0 # b=1 | c=0 / a=0 / # /")
}
