package fleet_test

import (
	"testing"

	"eddy/api"
)

// TestTheChaptersExamples: numbers 1 to 4.
func TestTheChaptersExamples(t *testing.T) {
	k := kindOf(line(), "a=none | b=none", 0, 1)
	plays(t, "Example 1", k, "0.0 = step", "here = 0", "config = 1 / 0 # a=none #", "1.0 = empty", "0.0 = block", "tick 0 = 2", "flights = 0>1 data 0.1 a=none, 1>0 answer 0 wants 1 word 0",
		"deliver 0 = yes", "here = 1", "flights = 1>0 answer 0 wants 1 word 0, 1>0 answer 0 wants 2 word 0", "1.0 = step", "0.0 = block", "deliver 0 = yes", "deliver 0 = yes", "deliver 0 = no", "0.0 = block",
		"tick 0 = 1", "deliver 0 = yes", "0.0 = step")
	plays(t, "Example 2", k, "0.0 = step", "tick 0 = 2", "drop 0 = yes", "tick 0 = 2", "flights = 1>0 answer 0 wants 1 word 0, 0>1 data 0.1 a=none, 1>0 answer 0 wants 1 word 0",
		"deliver 1 = yes", "here = 1", "1.0 = step", "deliver 0 = yes", "deliver 0 = yes", "deliver 0 = yes", "0.0 = block", "tick 0 = 1", "deliver 0 = yes", "0.0 = step", "config = 2 / 1 # b=none # a=none")
	plays(t, "Example 3", k, "tick 1 = 0", "tick -1 = 0", "flights =")
	plays(t, "Example 3", k.on(0, 0), "tick 0 = 0", "flights =")
	for _, place := range [][]int{{0, 8}, {0}} {
		news(t, "Example 4", k.on(place...), api.ErrFleetPlace)
	}
}
