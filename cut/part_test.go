package cut_test

import "testing"

// TestPartIsHandedOutOnce: and what stands behind it is as if it weren't handed out.
func TestPartIsHandedOutOnce(t *testing.T) {
	inModes(t, "P13.5", without, "2", "part = none", "mark 0 5 A = copied", "part = none", "took 1 x", "mark 1 5 B = ok", "part = 5 A [] [x]", "part = none", "part = none",
		"now = 5", "mark 0 5 C = ok", "mark 1 5 C p = ok", "took 0 y = ok", "took 1 y = ok", "part = none", "now = 5", "mark 0 4 C = ok", "part = none")
	plays(t, "P13.5", "aligned 2", "part = none", "mark 0 5 A = ok", "part = none", "mark 1 5 B = copied", "part = 5 B [] []", "part = none",
		"now = 5", "held 0 = false", "held 1 = false", "took 0 x = ok", "took 1 x = ok", "mark 0 5 C = ok", "mark 1 5 C = ok", "part = none", "now = 5")
	plays(t, "P13.5", "aligned 2 1", "mark 0 5 A = copied", "part = none", "took 1 x", "part = none", "mark 1 5 B = ok", "part = 5 A [] [x]", "part = none", "held 0 = false", "held 1 = false", "took 1 y = ok", "part = none")
}

// TestPartLogs: one a port, by the ports' numbers.
func TestPartLogs(t *testing.T) {
	inModes(t, "P13.5", allModes, "1", "mark 0 5 A", "part = 5 A []")
	inModes(t, "P13.5", without, "4", "mark 2 5 A", "took 3 a", "took 0 b", "took 1 c", "took 3 d", "mark 0 5 B", "mark 3 5 B", "took 1 e", "took 0 f", "mark 1 5 B", "part = 5 A [b] [c e] [] [a d]")
	plays(t, "P13.5", "overtaking 4", "mark 3 5 A d", "mark 1 5 B b", "mark 0 5 C a", "mark 2 5 D c", "part = 5 A [a] [b] [c] [d]")
	plays(t, "P13.5", "aligned 4 0", "mark 3 5 A", "mark 1 5 B", "mark 2 5 C", "took 0 a", "took 1 b", "mark 0 5 D", "part = 5 C [a] [] [] []")
}

// TestPartComesLate: what comes behind the last port's close doesn't show in it.
func TestPartComesLate(t *testing.T) {
	inModes(t, "P13.5", without, "2", "mark 0 5 A", "mark 1 5 B", "took 0 x", "took 1 y", "mark 0 5 C p", "mark 1 4 D q", "now = 5", "part = 5 A [] []")
	plays(t, "P13.5", "aligned 2 1", "mark 0 5 A", "took 1 x", "mark 1 5 B", "took 0 y", "took 1 z", "mark 0 4 C", "mark 1 5 C", "part = 5 A [] [x]")
}

func TestNow(t *testing.T) {
	inModes(t, "P13.6", without, "2", "now = 0", "took 0 x", "now = 0", "mark 0 5 A", "now = 5", "mark 1 3 A", "now = 5", "mark 1 5 A", "now = 5", "part", "now = 5", "mark 1 5 A", "now = 5", "mark 0 6 A", "now = 6", "mark 0 9999 A", "now = 9999", "mark 1 1 A", "now = 9999")
	plays(t, "P13.6", "aligned 2", "now = 0", "mark 0 5 A", "now = 5", "mark 0 6 A = held", "now = 5", "mark 1 6 A = ok", "now = 6", "mark 0 6 A = copied", "now = 6", "part", "now = 6", "mark 0 0 A = mark", "now = 6", "mark 2 7 A = port", "now = 6", "mark 1 10000 A = mark", "now = 6")
}

// TestExamples: those of the chapter.
func TestExamples(t *testing.T) {
	plays(t, "Example 1", "recorded 2", "mark 0 5 A = copied", "took 0 x = ok", "took 1 y = ok", "took 1 z = ok", "mark 1 5 B = ok", "part = 5 A [] [y z]", "part = none", "now = 5")
	plays(t, "Example 2", "aligned 2", "mark 0 5 A = ok", "held 0 = true", "took 0 x = held", "mark 0 6 A = held", "took 1 y = ok", "mark 1 5 B = copied", "held 0 = false", "part = 5 B [] []")
	plays(t, "Example 3", "aligned 2 1", "mark 0 5 A = copied", "took 1 x = ok", "mark 1 5 B = ok", "part = 5 A [] [x]")
	plays(t, "Example 4", "overtaking 2", "mark 1 5 A p q = copied", "took 0 x = ok", "mark 0 5 B r = ok", "part = 5 A [x r] [p q]")
	plays(t, "Example 5", "recorded 2", "mark 0 5 A = copied", "mark 0 7 B = copied", "mark 1 5 C = ok", "took 1 x = ok", "mark 1 7 C = ok", "part = 7 B [] [x]")
}
