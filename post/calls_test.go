package post_test

import "testing"

// TestTrigger: behind each end of a snapshot another one may begin, and what waited or was gathered is gone.
func TestTrigger(t *testing.T) {
	plays(t, "P14.2", "2 7 99", "trigger = 7", "trigger = under", "trigger = under", "open = 7 0 1", "status 7 = 1", "status 8 = 0")
	plays(t, "P14.2", "2 7 99", "trigger = 7", "hand 7 0 A", "trigger = under", "pick = 1", "trigger = under", "hand 7 1 B", "trigger = under", "pick = 2: 7 99 A B",
		"trigger = 8", "open = 8 0 1", "pick = 0", "trigger = under", "status 7 = 2", "status 8 = 1")
	plays(t, "P14.2", "1 1 0", "trigger = 1", "hand 1 0 A", "pick = 2: 1 0 A", "settle 1 yes = ok", "trigger = 2", "hand 2 0 B", "pick = 2: 2 0 B", "settle 2 no = ok", "trigger = 3", "abort = 3", "trigger = 4", "status 3 = 4", "status 4 = 1")
	plays(t, "P14.2", "2 1 5", "trigger = 1", "hand 1 0 A", "hand 1 1 B", "pick = 1", "abort = 1", "trigger = 2", "open = 2 0 1", "pick = 0", "hand 2 1 C = ok", "hand 2 0 D = ok", "pick = 1", "pick = 2: 2 5 D C")
}

// TestTriggerNumbers: MaxId is the last number; that one is under way is told ahead of used-up numbers.
func TestTriggerNumbers(t *testing.T) {
	plays(t, "P14.2", "1 9998 4", "trigger = 9998", "abort = 9998", "trigger = 9999", "trigger = under", "hand 9999 0 A = ok", "trigger = under", "pick = 2: 9999 4 A", "trigger = ids", "settle 9999 yes = ok", "trigger = ids", "trigger = ids",
		"open = 0", "status 9999 = 3", "status 9998 = 4", "status 10000 = 0", "abort = none", "pick = 0", "hand 10000 0 A = other", "hand 9999 0 A = other")
	plays(t, "P14.2", "2 9999 4", "trigger = 9999", "trigger = under", "abort = 9999", "trigger = ids", "status 9999 = 4", "status 10000 = 0")
	plays(t, "P14.2", "2 10000 4", "trigger = ids", "open = 0", "status 10000 = 0", "status 9999 = 0", "hand 10000 0 A = other", "hand 0 0 A = other", "trigger = ids", "pick = 0", "abort = none", "settle 10000 yes = not ready")
}

// TestHandErrors: each is told ahead of the next one, and none changes anything.
func TestHandErrors(t *testing.T) {
	plays(t, "P14.3", "2 7 99", "hand 7 2 A = task", "hand 7 -1 A = task", "hand 7 0 A = other", "hand 0 0 A = other", "hand 0 2 A = task", "trigger = 7",
		"hand 7 2 A = task", "hand 7 -1 A = task", "hand 7 3 A = task", "hand 7 12 A = task", "hand 7 9223372036854775807 A = task", "hand 7 -9223372036854775808 A = task", "hand 6 2 A = task", "hand 8 -1 A = task", "hand 7 4294967296 A = task",
		"hand 6 0 A = other", "hand 8 0 A = other", "hand 0 0 A = other", "hand -7 0 A = other", "hand 9223372036854775807 1 A = other", "hand -9223372036854775808 0 A = other", "hand 4294967303 0 A = other",
		"pick = 0", "open = 7 0 1",
		"hand 7 1 B = ok", "hand 7 1 C = twice", "hand 6 1 C = other", "hand 8 1 C = other", "hand 6 2 C = task", "hand 7 2 C = task",
		"pick = 1", "hand 7 1 C = twice", "hand 8 1 C = other", "hand 7 1 B = twice", "pick = 0",
		"hand 7 0 A = ok", "hand 7 0 C = twice", "hand 7 1 C = twice", "pick = 2: 7 99 A B",
		"hand 7 0 C = other", "hand 7 1 C = other", "hand 8 0 C = other", "hand 7 2 C = task", "hand 0 0 C = other", "pick = 0")
}

// TestHandTasks: the last task is tasks - 1, whatever MaxTasks is.
func TestHandTasks(t *testing.T) {
	plays(t, "P14.3", "1 1 0", "trigger = 1", "hand 1 1 A = task", "hand 1 -1 A = task", "hand 1 0 A = ok", "hand 1 1 A = task", "hand 1 0 A = twice", "pick = 2: 1 0 A")
	plays(t, "P14.3", "3 1 0", "trigger = 1", "hand 1 3 A = task", "hand 1 2 C = ok", "hand 1 11 A = task", "hand 1 0 A = ok", "hand 1 1 B = ok", "pick = 1", "pick = 1", "pick = 2: 1 0 A B C")
	plays(t, "P14.3", "12 1 0", "trigger = 1", "hand 1 12 A = task", "hand 1 11 L = ok", "hand 1 11 L = twice", "hand 1 13 A = task", "open = 1 0 1 2 3 4 5 6 7 8 9 10 11", "pick = 1", "open = 1 0 1 2 3 4 5 6 7 8 9 10", "hand 1 11 A = twice")
}

// TestHandBehindAnEnd: what was handed in for a snapshot that is over doesn't hinder the next one's parts.
func TestHandBehindAnEnd(t *testing.T) {
	plays(t, "P14.3", "2 1 0", "trigger = 1", "hand 1 0 A = ok", "hand 1 1 B = ok", "pick = 1", "abort = 1", "hand 1 0 C = other", "hand 1 1 C = other", "hand 2 0 C = other", "pick = 0",
		"trigger = 2", "hand 1 0 C = other", "hand 1 1 C = other", "hand 3 0 C = other", "hand 2 1 D = ok", "hand 2 0 E = ok", "hand 2 0 F = twice", "pick = 1", "pick = 2: 2 0 E D")
	plays(t, "P14.3", "2 1 0", "trigger = 1", "hand 1 0 A", "hand 1 1 B", "pick", "pick = 2: 1 0 A B", "hand 1 0 C = other", "hand 2 0 C = other", "trigger = 2", "hand 1 0 C = other", "hand 2 0 C = ok", "pick = 1", "hand 2 0 D = twice", "hand 2 1 D = ok", "pick = 2: 2 0 C D")
}

// TestPick: the oldest part first; the shot's parts by task.
func TestPick(t *testing.T) {
	plays(t, "P14.4", "1 5 4294967295", "pick = 0", "trigger = 5", "pick = 0", "hand 5 0 A", "pick = 2: 5 4294967295 A", "pick = 0", "status 5 = 2", "open = 0")
	plays(t, "P14.4", "3 5 1", "trigger = 5", "hand 5 2 C", "hand 5 0 A", "open = 5 0 1 2", "pick = 1", "open = 5 0 1", "pick = 1", "open = 5 1", "pick = 0", "open = 5 1", "status 5 = 1", "hand 5 1 B", "open = 5 1", "pick = 2: 5 1 A B C", "open = 0", "pick = 0", "status 5 = 2")
	plays(t, "P14.4", "3 5 0", "trigger = 5", "hand 5 1 B", "hand 5 2 C", "hand 5 0 A", "pick = 1", "open = 5 0 2", "pick = 1", "open = 5 0", "pick = 2: 5 0 A B C")
	plays(t, "P14.4", "2 5 0", "trigger = 5", "hand 5 1 -", "hand 5 0 -", "pick = 1", "pick = 2: 5 0 - -")
	plays(t, "P14.4", "2 5 0", "trigger = 5", "hand 5 0 A", "hand 5 1 A", "pick = 1", "pick = 2: 5 0 A A")
}

// TestPickWithNothingUnderWay: nothing is there, and nothing changes.
func TestPickWithNothingUnderWay(t *testing.T) {
	plays(t, "P14.4", "1 5 9", "pick = 0", "open = 0", "status 5 = 0", "trigger = 5", "abort = 5", "pick = 0", "status 5 = 4", "trigger = 6", "hand 6 0 A", "pick = 2: 6 9 A", "pick = 0", "status 6 = 2", "settle 6 yes", "pick = 0", "status 6 = 3", "trigger = 7")
}

// TestAbort: wherever the parts are.
func TestAbort(t *testing.T) {
	plays(t, "P14.5", "2 5 0", "abort = none", "trigger = 5", "abort = 5", "abort = none", "status 5 = 4", "open = 0")
	plays(t, "P14.5", "2 5 0", "trigger = 5", "hand 5 0 A", "hand 5 1 B", "abort = 5", "pick = 0", "status 5 = 4", "open = 0", "abort = none", "trigger = 6", "pick = 0", "open = 6 0 1")
	plays(t, "P14.5", "2 5 0", "trigger = 5", "hand 5 0 A", "pick = 1", "abort = 5", "pick = 0", "status 5 = 4", "open = 0", "trigger = 6", "open = 6 0 1", "hand 6 0 B = ok", "pick = 1", "open = 6 1", "hand 6 1 C = ok", "pick = 2: 6 0 B C")
	plays(t, "P14.5", "3 5 0", "trigger = 5", "hand 5 0 A", "pick = 1", "hand 5 1 B", "hand 5 2 C", "pick = 1", "abort = 5", "pick = 0", "trigger = 6", "pick = 0", "hand 6 2 F", "hand 6 1 E", "hand 6 0 D", "pick = 1", "pick = 1", "pick = 2: 6 0 D E F")
	plays(t, "P14.5", "1 5 0", "trigger = 5", "hand 5 0 A", "pick = 2: 5 0 A", "abort = none", "status 5 = 2", "settle 5 yes = ok", "abort = none", "status 5 = 3")
}

// TestAbortLeavesOthers: those that are ready, complete or aborted stay so.
func TestAbortLeavesOthers(t *testing.T) {
	plays(t, "P14.5", "1 5 0", "trigger", "hand 5 0 A", "pick = 2: 5 0 A", "trigger = 6", "hand 6 0 B", "pick = 2: 6 0 B", "settle 5 yes", "trigger = 7", "abort = 7", "trigger = 8", "hand 8 0 C", "abort = 8",
		"status 5 = 3", "status 6 = 2", "status 7 = 4", "status 8 = 4", "settle 8 yes = not ready", "settle 6 yes = ok", "status 6 = 3")
}

// TestSettle: of all statuses ready alone can be settled, and just once.
func TestSettle(t *testing.T) {
	for _, c := range []struct{ ok, status string }{{"yes", "3"}, {"no", "4"}} {
		plays(t, "P14.6", "1 7 0", "settle 7 "+c.ok+" = not ready", "settle 0 "+c.ok+" = not ready", "trigger = 7", "settle 7 "+c.ok+" = not ready", "status 7 = 1", "hand 7 0 A", "settle 7 "+c.ok+" = not ready", "pick = 2: 7 0 A",
			"settle 8 "+c.ok+" = not ready", "settle 6 "+c.ok+" = not ready", "settle 0 "+c.ok+" = not ready", "settle -7 "+c.ok+" = not ready", "settle 9223372036854775807 "+c.ok+" = not ready", "settle -9223372036854775808 "+c.ok+" = not ready", "status 7 = 2",
			"settle 7 "+c.ok+" = ok", "status 7 = "+c.status, "settle 7 yes = not ready", "settle 7 no = not ready", "status 7 = "+c.status,
			"trigger = 8", "abort = 8", "settle 8 "+c.ok+" = not ready", "status 8 = 4")
	}
}

// TestSettleInAnyOrder: several may be ready at a time, and one may be settled while another is under way.
func TestSettleInAnyOrder(t *testing.T) {
	plays(t, "P14.6", "1 1 0", "trigger", "hand 1 0 A", "pick", "trigger", "hand 2 0 B", "pick", "trigger", "hand 3 0 C", "pick", "trigger = 4", "hand 4 0 D",
		"status 1 = 2", "status 2 = 2", "status 3 = 2", "status 4 = 1", "settle 2 no = ok", "status 1 = 2", "status 2 = 4", "status 3 = 2", "settle 3 yes = ok", "settle 1 yes = ok", "status 1 = 3", "status 2 = 4", "status 3 = 3",
		"open = 4 0", "pick = 2: 4 0 D", "settle 4 no = ok", "status 4 = 4", "status 3 = 3")
}

func TestStatus(t *testing.T) {
	plays(t, "P14.7", "1 7 0", "status 6 = 0", "status 7 = 0", "status 8 = 0", "trigger = 7", "status 6 = 0", "status 7 = 1", "status 8 = 0", "hand 7 0 A", "status 7 = 1", "pick", "status 7 = 2", "settle 7 yes", "status 7 = 3", "status 8 = 0",
		"trigger = 8", "abort = 8", "status 8 = 4", "status 7 = 3", "status 9 = 0", "status 6 = 0", "status 0 = 0", "status 1 = 0", "status -1 = 0", "status -7 = 0", "status 10000 = 0", "status -9223372036854775808 = 0", "status 9223372036854775807 = 0", "status 4294967303 = 0")
	plays(t, "P14.7", "1 1 0", "status 0 = 0", "trigger = 1", "status 0 = 0", "status 1 = 1", "status 2 = 0")
	plays(t, "P14.7", "1 9999 0", "trigger = 9999", "status 9998 = 0", "status 9999 = 1", "status 10000 = 0")
}

// TestOpen: a part that waits isn't gathered.
func TestOpen(t *testing.T) {
	plays(t, "P14.7", "3 7 0", "open = 0", "trigger = 7", "open = 7 0 1 2", "hand 7 1 B", "open = 7 0 1 2", "hand 7 2 C", "hand 7 0 A", "open = 7 0 1 2", "open = 7 0 1 2", "pick", "open = 7 0 2", "pick", "open = 7 0", "pick = 2: 7 0 A B C", "open = 0", "settle 7 no", "open = 0")
	plays(t, "P14.7", "3 7 0", "trigger = 7", "hand 7 1 B", "pick", "open = 7 0 2", "abort = 7", "open = 0", "trigger = 8", "open = 8 0 1 2")
	plays(t, "P14.7", "12 7 0", "trigger = 7", "hand 7 4 A", "pick", "hand 7 11 B", "pick", "hand 7 0 C", "pick", "hand 7 10 D", "open = 7 1 2 3 5 6 7 8 9 10")
}

// TestExamples: those of the chapter.
func TestExamples(t *testing.T) {
	plays(t, "Example 1", "2 7 99", "trigger = 7", "trigger = under", "hand 7 1 B = ok", "hand 7 1 C = twice", "hand 6 0 A = other", "pick = 1", "pick = 0", "open = 7 0", "hand 7 0 A = ok", "open = 7 0", "pick = 2: 7 99 A B", "open = 0",
		"status 7 = 2", "abort = none", "settle 7 yes = ok", "status 7 = 3", "settle 7 no = not ready")
	plays(t, "Example 2", "1 9999 0", "trigger = 9999", "abort = 9999", "trigger = ids")
	plays(t, "Example 2", "1 10000 0", "trigger = ids")
	news(t, kind{1, 10001, 0}, 140)
	plays(t, "Example 3", "2 1 0", "trigger = 1", "hand 1 0 A", "abort = 1", "pick = 0", "trigger = 2", "hand 1 1 B = other", "hand 2 0 A = ok")
}
