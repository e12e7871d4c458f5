package cut_test

import (
	"math"
	"testing"

	"eddy/api"
)

const allModes, without = "aligned recorded overtaking", "recorded overtaking"

func TestHeldInModeAligned(t *testing.T) {
	plays(t, "P13.2", "aligned 2", "held 0 = false", "held 1 = false", "mark 0 5 A = ok", "held 0 = true", "held 1 = false", "took 1 x", "held 0 = true", "held 1 = false",
		"mark 1 5 B = copied", "held 0 = false", "held 1 = false", "part = 5 B [] []", "held 0 = false", "held 1 = false")
	plays(t, "P13.2", "aligned 1", "held 0 = false", "mark 0 1 A = copied", "held 0 = false", "part", "held 0 = false")
	plays(t, "P13.2", "aligned 4", "mark 3 1 A", "held 3 = true", "mark 1 1 A", "held 1 = true", "held 0 = false", "held 2 = false", "mark 0 1 A", "held 0 = true", "held 2 = false", "held 3 = true",
		"mark 2 1 A = copied", "held 0 = false", "held 1 = false", "held 2 = false", "held 3 = false")
}

// TestHeldBackPort: a back port that is closed ahead of the copy is held too; the copy doesn't wait for it.
func TestHeldBackPort(t *testing.T) {
	plays(t, "P13.2", "aligned 2 1", "mark 1 5 A = ok", "held 1 = true", "held 0 = false", "mark 0 5 B = copied", "held 1 = false", "held 0 = false")
	plays(t, "P13.2", "aligned 2 1", "mark 0 5 A = copied", "held 0 = false", "held 1 = false", "mark 1 5 B = ok", "held 1 = false", "held 0 = false")
	plays(t, "P13.2", "aligned 2 0", "mark 0 5 A = ok", "held 0 = true", "mark 1 5 B = copied", "held 0 = false", "held 1 = false")
	plays(t, "P13.2", "aligned 4 2", "mark 0 5 A", "mark 2 5 A", "held 0 = true", "held 1 = false", "held 2 = true", "held 3 = false", "mark 3 5 A", "held 3 = true", "held 2 = true",
		"mark 1 5 A = copied", "held 0 = false", "held 1 = false", "held 2 = false", "held 3 = false")
}

// TestHeldAndOtherMarkers: a greater marker lets go of what an earlier one held; a lesser one holds nothing.
func TestHeldAndOtherMarkers(t *testing.T) {
	plays(t, "P13.2", "aligned 3", "mark 0 5 A", "mark 1 8 A = ok", "held 0 = false", "held 1 = true", "held 2 = false", "mark 0 8 A = ok", "held 0 = true", "held 1 = true")
	plays(t, "P13.2", "aligned 3", "mark 0 5 A", "mark 1 3 A = ok", "held 0 = true", "held 1 = false")
	plays(t, "P13.2", "aligned 2", "mark 0 5 A", "mark 1 5 B = copied", "mark 1 6 A = ok", "held 0 = false", "held 1 = true", "mark 0 6 C = copied", "held 1 = false")
}

func TestHeldInTheOtherModes(t *testing.T) {
	inModes(t, "P13.2, P13.8", without, "2", "held 0 = false", "mark 0 5 A = copied", "held 0 = false", "held 1 = false", "mark 0 7 A = copied", "held 0 = false", "mark 1 7 A = ok", "held 0 = false", "held 1 = false")
	inModes(t, "P13.2, P13.8", without, "2 1", "mark 1 5 A = copied", "held 0 = false", "held 1 = false", "mark 0 5 A = ok", "held 0 = false", "held 1 = false")
}

// TestHeldOfNoPort: the number of no port is never held, also where ports are.
func TestHeldOfNoPort(t *testing.T) {
	for _, k := range kinds(api.MaxPorts) {
		b := k.open(t)
		for port := range k.ports {
			for _, wrong := range []int{-1, -2, k.ports, k.ports + 1, 3 + k.ports, 4, 5, 64, 256, 1 << 32, math.MinInt, math.MinInt + 1, math.MaxInt} {
				if (wrong < 0 || wrong >= k.ports) && b.Held(wrong) {
					t.Errorf("P13.2: %v: Held(%d) is true", k, wrong)
				}
			}
			b.Mark(port, 7, nil, api.State{}, nil)
		}
	}
}

func TestTookAtNoPort(t *testing.T) {
	inModes(t, "P13.3", allModes, "2", "took -1 x = port", "took 2 x = port", "took 3 x = port", "took 4 x = port", "took 9223372036854775807 x = port", "took -9223372036854775808 x = port",
		"mark 0 5 A", "took -1 x = port", "took 2 x = port", "mark 1 5 B", "took 2 x = port")
	inModes(t, "P13.3", allModes, "1", "took 1 x = port", "took -1 x = port", "took 0 x = ok")
	inModes(t, "P13.3", allModes, "4", "took 4 x = port", "took 3 x = ok", "took 0 x = ok")
}

// TestTookAtAHeldPort: it is refused, and lies in no log.
func TestTookAtAHeldPort(t *testing.T) {
	plays(t, "P13.3", "aligned 2 1", "mark 1 5 A", "took 1 x = held", "took 0 y = ok", "took 1 x = held", "mark 0 5 B = copied", "took 1 z = ok", "part = 5 B [] []")
	plays(t, "P13.3", "aligned 3", "mark 2 5 A", "took 2 x = held", "mark 0 5 B", "took 0 x = held", "took 1 y = ok", "mark 1 5 C = copied", "took 0 x = ok", "took 1 x = ok", "took 2 x = ok", "part = 5 C [] [] []")
}

// TestTookIsRecorded: from the copy on, where the port is open, in the records' order, port by port.
func TestTookIsRecorded(t *testing.T) {
	inModes(t, "P13.3", without, "3", "mark 1 5 A = copied", "took 0 a = ok", "took 2 b = ok", "took 0 c = ok", "took 1 d = ok", "took 2 e = ok", "took 0 a = ok", "mark 0 5 B", "mark 2 5 C", "part = 5 A [a c a] [] [b e]")
	plays(t, "P13.3", "aligned 3 0", "mark 1 5 A", "took 0 a = ok", "mark 2 5 B = copied", "took 0 b = ok", "took 1 c = ok", "took 0 d = ok", "mark 0 5 C", "part = 5 B [b d] [] []")
}

// TestTookAheadOfTheCopy: what was taken there isn't recorded, with a snapshot begun or not.
func TestTookAheadOfTheCopy(t *testing.T) {
	inModes(t, "P13.3", allModes, "2", "took 0 a = ok", "took 1 b = ok", "took 1 c = ok", "mark 0 5 A", "mark 1 5 B", "took 0 d = ok", "mark 0 6 C", "mark 1 6 D")
	plays(t, "P13.3", "recorded 2", "took 0 a", "took 1 b", "mark 0 5 A", "mark 1 5 B", "part = 5 A [] []")
	plays(t, "P13.3", "overtaking 2", "took 0 a", "took 1 b", "mark 0 5 A", "mark 1 5 B", "part = 5 A [] []")
	plays(t, "P13.3", "aligned 3 2", "took 2 a", "mark 0 5 A", "took 2 b = ok", "took 1 c = ok", "mark 1 5 B = copied", "mark 2 5 C", "part = 5 B [] [] []")
}

// TestTookAtAClosedPort: what is taken behind the marker isn't recorded, ahead of the part and behind it.
func TestTookAtAClosedPort(t *testing.T) {
	inModes(t, "P13.3", without, "2", "mark 0 5 A", "took 0 a = ok", "took 1 b = ok", "took 0 c = ok", "mark 1 5 B", "took 0 d = ok", "took 1 e = ok", "part = 5 A [] [b]", "took 0 f = ok", "took 1 g = ok", "part = none")
	plays(t, "P13.3", "aligned 2 1", "mark 0 5 A", "took 0 a = ok", "took 1 b = ok", "mark 1 5 B", "took 1 c = ok", "took 0 d = ok", "part = 5 A [] [b]", "took 0 f = ok", "took 1 g = ok", "part = none")
}
