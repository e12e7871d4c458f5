package cut_test

import "testing"

// TestMarkErrors: each is told ahead of the next one.
func TestMarkErrors(t *testing.T) {
	plays(t, "P13.4", "aligned 2", "mark 0 5 A = ok",
		"mark 2 0 A = port", "mark -1 10000 A = port", "mark 2 5 A = port", "mark 3 5 A = port", "mark 4 6 A = port", "mark -9223372036854775808 5 A = port", "mark 9223372036854775807 5 A = port",
		"mark 0 0 A = mark", "mark 0 10000 A = mark", "mark 0 -1 A = mark", "mark 0 9223372036854775807 A = mark", "mark 0 -9223372036854775808 A = mark", "mark 1 0 A = mark", "mark 1 10000 A = mark",
		"mark 0 5 A = held", "mark 0 4 A = held", "mark 0 6 A = held", "mark 0 1 A = held", "mark 0 9999 A = held",
		"now = 5", "held 0 = true", "held 1 = false", "mark 1 5 B = copied", "part = 5 B [] []")
	inModes(t, "P13.4", without, "2", "mark 2 0 A = port", "mark -1 0 A = port", "mark 0 0 A = mark", "mark 0 10000 A = mark", "mark 1 -5 A = mark", "now = 0", "part = none",
		"mark 0 5 A = copied", "mark 2 5 B = port", "mark 1 0 B = mark", "mark 1 10000 B = mark", "took 1 x", "part = none", "mark 1 5 B = ok", "part = 5 A [] [x]")
}

func TestMarkNumbers(t *testing.T) {
	inModes(t, "P13.4", allModes, "1", "mark 0 1 A = copied", "now = 1", "mark 0 9999 B = copied", "now = 9999", "mark 0 10000 C = mark", "now = 9999", "part = 9999 B []")
	inModes(t, "P13.4", allModes, "1", "mark 0 9999 A = copied", "mark 0 1 B = ok", "mark 0 9999 B = ok", "now = 9999", "part = 9999 A []")
}

// TestMarkBelowNow: it is dropped, wherever the snapshot stands; the port stays as it was.
func TestMarkBelowNow(t *testing.T) {
	plays(t, "P13.4.1", "aligned 2", "mark 0 5 A = ok", "mark 1 4 B = ok", "now = 5", "held 0 = true", "held 1 = false", "took 1 x = ok", "part = none", "mark 1 5 C = copied", "mark 0 4 D = ok", "mark 1 1 D = ok", "part = 5 C [] []", "mark 0 4 D = ok", "part = none", "now = 5")
	plays(t, "P13.4.1", "aligned 2 1", "mark 0 5 A = copied", "took 1 x", "mark 1 4 B = ok", "took 1 y", "mark 0 4 B = ok", "part = none", "mark 1 5 C = ok", "part = 5 A [] [x y]")
	inModes(t, "P13.4.1", without, "2", "mark 0 5 A = copied", "took 1 x", "mark 1 4 B p = ok", "mark 0 1 B q = ok", "took 1 y", "took 0 z", "part = none", "mark 1 5 C = ok", "mark 0 4 D = ok", "part = 5 A [] [x y]", "mark 1 4 D = ok", "part = none", "now = 5")
}

// TestMarkAtNow: at a port that is closed already it is dropped: neither the state, nor what stands ahead of it counts.
func TestMarkAtNow(t *testing.T) {
	inModes(t, "P13.4.3", without, "2", "mark 0 5 A = copied", "mark 0 5 B p = ok", "took 0 x = ok", "part = none", "mark 1 5 C = ok", "mark 1 5 D q = ok", "mark 0 5 D r = ok", "part = 5 A [] []", "mark 0 5 E = ok", "mark 1 5 E = ok", "part = none")
	plays(t, "P13.4.3", "aligned 2", "mark 0 5 A = ok", "mark 1 5 B = copied", "mark 0 5 C = ok", "mark 1 5 C = ok", "part = 5 B [] []", "mark 0 5 D = ok", "part = none")
	plays(t, "P13.4.3", "aligned 2 1", "mark 0 5 A = copied", "mark 0 5 B = ok", "took 1 x", "mark 1 5 B = ok", "mark 1 5 C = ok", "took 1 y", "part = 5 A [] [x]")
}

// TestMarkAtAHeldPort: the port's marker was taken: another one is refused, not dropped.
func TestMarkAtAHeldPort(t *testing.T) {
	plays(t, "P13.4", "aligned 2", "mark 0 5 A", "mark 0 5 B = held", "mark 0 6 B = held", "now = 5", "mark 1 5 C = copied", "mark 0 6 D = ok", "now = 6", "held 0 = true")
}

// TestMarkMakesTheCopy: in mode Aligned with the last regular port, in the others with the first one of all.
func TestMarkMakesTheCopy(t *testing.T) {
	plays(t, "P13.4.3", "aligned 4", "mark 2 5 A = ok", "mark 0 5 B = ok", "mark 3 5 C = ok", "part = none", "mark 1 5 D = copied", "part = 5 D [] [] [] []")
	plays(t, "P13.4.3", "aligned 4 1", "mark 2 5 A = ok", "mark 0 5 B = ok", "mark 3 5 C = copied", "part = none", "mark 1 5 D = ok", "part = 5 C [] [] [] []")
	plays(t, "P13.4.3", "aligned 4 1", "mark 2 5 A = ok", "mark 1 5 B = ok", "mark 0 5 C = ok", "part = none", "mark 3 5 D = copied", "part = 5 D [] [] [] []")
	plays(t, "P13.4.3", "aligned 2 0", "mark 1 5 A = copied", "took 0 x", "mark 0 5 B = ok", "part = 5 A [x] []")
	plays(t, "P13.4.3", "aligned 2 0", "mark 0 5 A = ok", "mark 1 5 B = copied", "part = 5 B [] []")
	inModes(t, "P13.4.3", without, "4 1", "mark 2 5 A = copied", "mark 0 5 B = ok", "mark 3 5 C = ok", "part = none", "mark 1 5 D = ok", "part = 5 A [] [] [] []")
	inModes(t, "P13.4.3", without, "3 1", "mark 1 5 A = copied", "took 0 x", "took 2 y", "mark 0 5 B = ok", "mark 2 5 C = ok", "part = 5 A [x] [] [y]")
	inModes(t, "P13.4.3", allModes, "1", "mark 0 5 A = copied", "mark 0 5 B = ok", "part = 5 A []", "mark 0 6 - = copied", "part = 6 - []")
}

// TestMarkAhead: it is laid behind what the log holds, also by the call that makes the copy; in the other modes it isn't looked at.
func TestMarkAhead(t *testing.T) {
	plays(t, "P13.4.3", "overtaking 2", "mark 1 5 A p q = copied", "took 0 x", "took 1 p", "took 0 y", "mark 0 5 B r s t = ok", "part = 5 A [x y r s t] [p q]")
	plays(t, "P13.4.3", "overtaking 1", "mark 0 5 A p = copied", "part = 5 A [p]", "mark 0 6 B p q = copied", "part = 6 B [p q]")
	plays(t, "P13.4.3", "overtaking 2 1", "took 0 u", "took 1 v", "mark 0 5 A = copied", "took 1 w", "mark 1 5 B w w = ok", "part = 5 A [] [w w w]")
	plays(t, "P13.4.3", "recorded 2", "mark 1 5 A p q = copied", "took 0 x", "mark 0 5 B r s = ok", "part = 5 A [x] []")
	plays(t, "P13.4.3", "aligned 2", "mark 1 5 A p q = ok", "took 0 x", "mark 0 5 B r s = copied", "part = 5 B [] []")
	plays(t, "P13.4.3", "aligned 2 1", "mark 0 5 A p q = copied", "took 1 x", "mark 1 5 B r s = ok", "part = 5 A [] [x]")
}

// TestMarkBeginsAnother: what an earlier snapshot left is gone, wherever that one stood.
func TestMarkBeginsAnother(t *testing.T) {
	inModes(t, "P13.4.2", without, "2", "mark 0 5 A = copied", "took 1 x", "mark 1 7 B = copied", "now = 7", "took 1 y", "took 0 z", "mark 1 5 C = ok", "part = none", "mark 0 7 C = ok", "part = 7 B [z] []", "part = none")
	inModes(t, "P13.4.2", without, "2", "mark 0 5 A = copied", "mark 0 7 B = copied", "mark 1 5 C = ok", "took 1 x", "mark 1 7 D = ok", "part = 7 B [] [x]")
	plays(t, "P13.4.2", "overtaking 2", "mark 0 5 A p = copied", "mark 0 7 B q = copied", "mark 1 7 C r = ok", "part = 7 B [q] [r]")
	plays(t, "P13.4.2", "aligned 3", "mark 0 5 A = ok", "mark 1 8 B = ok", "mark 2 5 C = ok", "mark 0 8 C = ok", "mark 2 8 D = copied", "part = 8 D [] [] []")
	plays(t, "P13.4.2", "aligned 2 1", "mark 0 5 A = copied", "took 1 x", "mark 0 6 B = copied", "took 1 y", "mark 1 5 C = ok", "took 1 z", "mark 1 6 C = ok", "part = 6 B [] [y z]")
	plays(t, "P13.4.2", "aligned 2 1", "mark 0 5 A = copied", "took 1 x", "mark 1 6 B = ok", "held 1 = true", "held 0 = false", "took 0 y = ok", "mark 0 6 C = copied", "part = 6 C [] []")
}

// TestMarkBehindADonePart: a part that is done and wasn't handed out is gone; one that was handed out hinders nothing.
func TestMarkBehindADonePart(t *testing.T) {
	inModes(t, "P13.4.2", without, "2", "mark 0 5 A", "took 1 x", "mark 1 5 B", "mark 1 6 C = copied", "part = none", "took 0 y", "mark 0 6 D = ok", "part = 6 C [y] []")
	inModes(t, "P13.4.2", without, "2", "mark 0 5 A", "took 1 x", "mark 1 5 B", "part = 5 A [] [x]", "mark 1 6 C = copied", "part = none", "took 0 y", "mark 0 6 D = ok", "part = 6 C [y] []", "part = none")
	plays(t, "P13.4.2", "aligned 2", "mark 0 5 A", "mark 1 5 B", "mark 1 6 C = ok", "part = none", "mark 0 6 D = copied", "part = 6 D [] []")
	plays(t, "P13.4.2", "aligned 2", "mark 0 5 A", "mark 1 5 B", "part = 5 B [] []", "mark 1 6 C = ok", "part = none", "mark 0 6 D = copied", "part = 6 D [] []", "part = none")
	inModes(t, "P13.4.2", allModes, "1", "mark 0 5 A = copied", "mark 0 6 B = copied", "part = 6 B []", "mark 0 5 C = ok", "part = none", "mark 0 7 C = copied", "part = 7 C []")
}

// TestMarkWithoutState: an empty state and no pending output are copied as well as others.
func TestMarkWithoutState(t *testing.T) {
	inModes(t, "P13.4.3", without, "2", "mark 0 5 - = copied", "mark 1 5 A = ok", "part = 5 - [] []")
	plays(t, "P13.4.3", "aligned 2", "mark 0 5 A = ok", "mark 1 5 - = copied", "part = 5 - [] []")
}
