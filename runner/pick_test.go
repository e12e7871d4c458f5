package runner_test

import (
	"math"
	"testing"

	"eddy/api"
	"eddy/equal"
	"eddy/pen"
)

// TestNoSuchTaskOrPort: nothing changes, whatever stands in the lanes.
func TestNoSuchTaskOrPort(t *testing.T) {
	numbers := []int{math.MinInt, -1 << 32, -2, -1, 0, 1, 2, 3, 4, 5, 11, 12, 64, 1 << 32, 1<<32 + 1, math.MaxInt}
	for mode := 1; mode <= 3; mode++ {
		for _, plan := range []api.Plan{line(), pair(), loop(), fork()} {
			k := kindOf(plan, "a=1 | b=2 / c=3").in(mode)
			r, m := k.open(t), k.model()
			for _, c := range []string{"0.0", "1.0", "trigger", "0.0", "1.0"} {
				called(c).of(r)
				called(c).of(m)
			}
			config, trail := r.Config(), pen.TellTrail(r.Trail())
			for _, task := range numbers {
				for _, port := range numbers {
					there := task >= 0 && task < len(plan.Tasks) && port >= 0 && port < m.ports(task)
					if there {
						continue
					}
					if did := r.Pick(task, port); did != api.DidNothing {
						t.Errorf("P16.3.1: %v: Pick(%d, %d) answers %s", k, task, port, didTold(did))
					}
				}
			}
			if !equal.Config(r.Config(), config) || pen.TellTrail(r.Trail()) != trail {
				t.Errorf("P16.3.1: %v: a pick of no port changes something", k)
			}
		}
	}
	k := kindOf(pair(), "a=1 / b=2")
	inModes(t, "P16.3.1", allModes, k, "trigger = 1", "4.0 = nothing", "-1.0 = nothing", "0.1 = nothing", "0.-1 = nothing", "2.2 = nothing", "3.1 = nothing", "trail = trigger 1", "0.0 = mark", "0.1 = nothing", "2.-1 = nothing", "2.0 = mark")
}

// TestMarkersOvertake: in mode Overtaking alone, from behind any number of records; the oldest marker first.
func TestMarkersOvertake(t *testing.T) {
	k := kindOf(line(), "a=1 | b=2 | c=3").with(3)
	lead := []string{"0.0 = step", "0.0 = step", "trigger = 1", "0.0 = mark", "0.0 = step"}
	inModes(t, "P16.3.2", "overtaking", k, append(lead, "1.0 = mark", "config = 3 / 0 # a=1 | b=2 | c=3 #", "post = ack", "post = ready: 1 77 {2} {0 [a=1 | b=2]}", "1.0 = step", "1.0 = step", "1.0 = step", "1.0 = empty")...)
	inModes(t, "P16.3.6, P16.3.7", slowModes, k, append(lead, "1.0 = step", "1.0 = step", "1.0 = mark", "config = 3 / 2 # c=3 # a=1 | b=2", "post = ack", "post = ready: 1 77 {2} {2 [] <a=1 | b=2>}", "1.0 = step", "1.0 = empty")...)
	twice := []string{"0.0 = step", "trigger = 1", "0.0 = mark", "0.0 = step", "abort = 1", "trigger = 2", "0.0 = mark", "0.0 = step"}
	inModes(t, "P16.3.2", "overtaking", k, append(twice, "1.0 = mark", "1.0 = mark", "1.0 = step", "post = ack", "post = ready: 2 77 {2} {0 [a=1 | b=2]}",
		"trail = step 0.0, trigger 1, mark 0.0 1, copy 0 1, part 0 1, step 0.0, abort 1, trigger 2, mark 0.0 2, copy 0 2, part 0 2, step 0.0, mark 1.0 1, copy 1 1, part 1 1, mark 1.0 2, copy 1 2, part 1 2, step 1.0, ready 2")...)
	inModes(t, "P16.3.6, P16.3.7", slowModes, k, append(twice, "1.0 = step", "1.0 = mark", "1.0 = step", "1.0 = mark", "1.0 = step", "1.0 = empty")...)
}

// TestMarkersOvertakeAtEachPort: the port that is picked, and no other one; the records taken since the copy stand ahead of those that were overtaken.
func TestMarkersOvertakeAtEachPort(t *testing.T) {
	k := kindOf(pair(), "a=1 | b=2 | c=3 / x=1 | y=2 | z=3").with(3).in(api.Overtaking)
	plays(t, "P16.3.2, P16.4", k, "0.0", "0.0", "1.0", "1.0", "1.0", "trigger = 1", "0.0 = mark", "2.1 = step", "2.0 = mark", "2.1 = step", "2.0 = step", "1.0 = mark", "2.1 = mark", "3.0 = mark", "post", "post", "post",
		"post = ready: 1 77 {2} {3} {0 [a=1 | b=2] [y=2 | z=3]} {0 [x=1]}", "config = 2 / 3 / 0 / 0 # b=2 / z=3 / x=1 | y=2 | a=1 #")
}

// TestASourcesMarkers: they are taken ahead of its tape's records, at the tape's end too.
func TestASourcesMarkers(t *testing.T) {
	k := kindOf(line(), "a=1")
	inModes(t, "P16.3.2, P16.3.4, P16.3.6", allModes, k, "trigger = 1", "0.0 = mark", "0.0 = step", "0.0 = empty", "trail = trigger 1, mark 0.0 1, copy 0 1, part 0 1, step 0.0")
	inModes(t, "P16.3.2, P16.3.4, P16.3.6", allModes, k, "0.0 = step", "0.0 = empty", "trigger = 1", "0.0 = mark", "0.0 = empty")
	inModes(t, "P16.3.2, P16.3.4, P16.3.6", allModes, k, "trigger = 1", "abort = 1", "trigger = 2", "abort = 2", "trigger = 3", "0.0 = mark", "0.0 = mark", "0.0 = mark", "0.0 = step", "0.0 = empty",
		"trail = trigger 1, abort 1, trigger 2, abort 2, trigger 3, mark 0.0 1, copy 0 1, part 0 1, mark 0.0 2, copy 0 2, part 0 2, mark 0.0 3, copy 0 3, part 0 3, step 0.0", "config = 1 / 0 # a=1 #")
	inModes(t, "P16.3.4", allModes, kindOf(line(), ""), "0.0 = empty", "trail = ", "trigger = 1", "0.0 = mark", "0.0 = empty")
	inModes(t, "P16.3.4", allModes, kindOf(line(), "a=1 | b=2").at("1 / 0", "", ""), "0.0 = step", "0.0 = empty", "config = 2 / 0 # b=2 #")
	inModes(t, "P16.3.6", allModes, k.at("0 / 0", "x=1", ""), "0.0 = block", "trigger = 1", "0.0 = mark", "0.0 = block")
}

// TestHeldPorts: in mode Aligned, over nothing, over a record and over a marker; in no other mode.
func TestHeldPorts(t *testing.T) {
	k := kindOf(pair(), "a=1 | b=2 / x=1 | y=2").with(2)
	inModes(t, "P16.3.3", "aligned", k, "trigger = 1", "0.0 = mark", "2.0 = mark", "2.0 = held", "0.0 = step", "2.0 = held", "2.0 = held", "config = 1 / 0 / 0 / 0 # a=1 / / #", "1.0 = mark", "2.1 = mark", "2.0 = step", "2.0 = empty", "2.1 = empty")
	inModes(t, "P16.3.3", "recorded overtaking", k, "trigger = 1", "0.0 = mark", "2.0 = mark", "2.0 = empty", "0.0 = step", "2.0 = step", "2.0 = empty")
	inModes(t, "P16.3.3", "aligned", k, "trigger = 1", "0.0 = mark", "2.0 = mark", "abort = 1", "trigger = 2", "0.0 = mark", "2.0 = held", "1.0 = mark", "2.1 = mark", "2.0 = mark", "2.0 = held", "1.0 = mark", "2.1 = mark", "2.0 = empty", "3.0 = mark", "3.0 = mark", "3.0 = empty",
		"trail = trigger 1, mark 0.0 1, copy 0 1, part 0 1, mark 2.0 1, abort 1, trigger 2, mark 0.0 2, copy 0 2, part 0 2, mark 1.0 1, copy 1 1, part 1 1, mark 2.1 1, copy 2 1, part 2 1, mark 2.0 2, mark 1.0 2, copy 1 2, part 1 2, mark 2.1 2, copy 2 2, part 2 2, mark 3.0 1, copy 3 1, part 3 1, mark 3.0 2, copy 3 2, part 3 2")
	inModes(t, "P16.3.3", "recorded", k, "trigger = 1", "0.0 = mark", "2.0 = mark", "abort = 1", "trigger = 2", "0.0 = mark", "2.0 = mark", "2.0 = empty")
	inModes(t, "P16.3.3", "aligned", k, "0.0 = step", "0.0 = step", "trigger = 1", "1.0 = mark", "1.0 = step", "2.1 = mark", "2.1 = held", "2.0 = step", "2.1 = held", "0.0 = mark", "2.0 = step", "2.1 = held", "2.0 = mark", "2.1 = block", "3.0 = step", "2.1 = step")
}

// TestAHeadsPorts: a back port that closes ahead of the copy is held too; from the copy on it records.
func TestAHeadsPorts(t *testing.T) {
	// The head doesn't reach its tail: so a marker can come back ahead of the one at its port 0.
	p := pen.ReadPlan("s source 0", "r source 1", "h head", "t tail 0 ; 3", "k sink", "l sink", "s.0 h.0", "r.0 t.0", "t.0 h.1", "t.1 l.0", "h.0 k.0")
	k := kindOf(p, "a=1 / x=1 | y=2").with(4)
	inModes(t, "P16.3.3", "aligned", k, "0.0 = step", "trigger = 1", "1.0 = mark", "3.0 = mark", "1.0 = step", "3.0 = step", "2.1 = mark", "2.1 = held", "2.0 = step", "2.1 = held", "0.0 = mark", "2.0 = mark", "2.1 = step", "4.0 = step", "4.0 = mark", "5.0 = mark",
		"post", "post", "post", "post", "post", "post = ready: 1 77 {1} {0} {0 [] []} {0 []} {1 [] <a=1@0>} {0 []}")
	inModes(t, "P16.3.3", "recorded overtaking", k, "0.0 = step", "trigger = 1", "1.0 = mark", "3.0 = mark", "1.0 = step", "3.0 = step", "2.1 = mark", "2.1 = step", "2.0 = step", "0.0 = mark", "2.0 = mark", "4.0 = mark", "5.0 = mark",
		"post", "post", "post", "post", "post", "post = ready: 1 77 {1} {0} {0 [a=1] []} {0 []} {0 []} {0 []}")
	inModes(t, "P16.4", allModes, k, "1.0 = step", "3.0 = step", "1.0 = step", "3.0 = step", "trigger = 1", "0.0 = mark", "2.0 = mark", "2.1 = step", "2.1 = step", "1.0 = mark", "3.0 = mark", "2.1 = mark", "2.1 = empty")
	inModes(t, "P16.4", slowModes, k, "1.0 = step", "3.0 = step", "1.0 = step", "3.0 = step", "trigger = 1", "0.0 = mark", "2.0 = mark", "2.1 = step", "1.0 = mark", "3.0 = mark", "2.1 = step", "2.1 = mark", "4.0 = mark", "5.0 = mark",
		"post", "post", "post", "post", "post", "post = ready: 1 77 {0} {2} {0 [] [x=1@1 | y=2@1]} {0 []} {0 []} {0 []}")
	inModes(t, "P16.4", "overtaking", k, "1.0 = step", "3.0 = step", "1.0 = step", "3.0 = step", "trigger = 1", "0.0 = mark", "2.0 = mark", "2.1 = step", "1.0 = mark", "3.0 = mark", "2.1 = mark", "2.1 = step", "4.0 = mark", "5.0 = mark",
		"post", "post", "post", "post", "post", "post = ready: 1 77 {0} {2} {0 [] [x=1@1 | y=2@1]} {0 []} {0 []} {0 []}")
}

// TestEmptyLanes: nothing changes.
func TestEmptyLanes(t *testing.T) {
	for _, plan := range []api.Plan{line(), pair(), loop(), fork()} {
		k := kindOf(plan, " / ")
		for mode := 1; mode <= 3; mode++ {
			var lines []string
			for _, c := range k.model().picks() {
				lines = append(lines, c.String()+" = empty")
			}
			plays(t, "P16.3.4, P16.3.5", k.in(mode), append(lines, "trail = ", "config = "+pen.TellConfig(k.start))...)
		}
	}
}

// TestMarkersBelowNow: they leave the lane and stand in the trail; nothing else.
func TestMarkersBelowNow(t *testing.T) {
	k := kindOf(pair(), "a=1 / x=1")
	// Port 0 brings marker 2 ahead of port 1's marker 1.
	lead := []string{"1.0 = step", "trigger = 1", "0.0 = mark", "abort = 1", "trigger = 2", "0.0 = mark", "2.0 = mark", "2.0 = mark", "1.0 = mark", "1.0 = mark"}
	trail := "trail = step 1.0, trigger 1, mark 0.0 1, copy 0 1, part 0 1, abort 1, trigger 2, mark 0.0 2, copy 0 2, part 0 2, mark 2.0 1, copy 2 1, mark 2.0 2, copy 2 2, mark 1.0 1, copy 1 1, part 1 1, mark 1.0 2, copy 1 2, part 1 2, "
	end := []string{"3.0 = mark", "3.0 = mark", "post = ack", "post = ack", "post = ack", "post = ready: 2 77 {0} {1} {0 [] [x=1]} {0 []}"}
	inModes(t, "P16.4", "recorded", k, append(append(lead, "2.1 = step", "2.1 = mark", "2.1 = mark", "2.1 = empty", trail+"step 2.1, mark 2.1 1, mark 2.1 2, part 2 2"), end...)...)
	inModes(t, "P16.4", "overtaking", k, append(append(lead, "2.1 = mark", trail+"mark 2.1 1", "2.1 = mark", "2.1 = step", "2.1 = empty", trail+"mark 2.1 1, mark 2.1 2, part 2 2, step 2.1"), end...)...)
	// What is taken behind the one that is dropped and ahead of the other one is recorded.
	inModes(t, "P16.4", "recorded overtaking", k, append([]string{"trigger = 1", "0.0 = mark", "2.0 = mark", "abort = 1", "1.0 = mark", "1.0 = step", "trigger = 2", "0.0 = mark", "2.0 = mark", "2.1 = mark", "2.1 = step", "1.0 = mark", "2.1 = mark"}, end...)...)
}

// TestACopy: the marker goes out at all out ports, into full lanes too, and stands behind what is there.
func TestACopy(t *testing.T) {
	k := kindOf(fork(), "a=1 | b=2")
	lead := []string{"1.0 = step", "3.0 = step", "1.0 = step", "3.0 = block", "trigger = 1", "1.0 = mark", "3.0 = block"}
	inModes(t, "P16.4", slowModes, k, append(lead, "0.0 = step", "0.0 = empty", "2.0 = step", "4.0 = step", "3.0 = step", "3.0 = mark", "0.0 = step", "0.0 = mark", "2.0 = step", "2.0 = mark", "4.0 = step", "4.0 = mark",
		"post", "post", "post", "post", "post = ready: 1 77 {2 [] <a=1 | b=2>} {2} {2 [] <a=1 | b=2>} {0 []} {2 [] <a=1 | b=2>}")...)
	inModes(t, "P16.4", "overtaking", k, append(lead[:6:6], "0.0 = step", "3.0 = mark", "3.0 = block", "4.0 = mark", "0.0 = mark", "2.0 = mark", "3.0 = block", "config = 1 / 2 / 0 / 0 / 0 # a=1 / b=2 / / a=1 # a=1 / / ",
		"post", "post", "post", "post", "post = ready: 1 77 {1 [] <a=1>} {2} {0 [a=1]} {0 [b=2]} {0 [a=1]}")...)
}

// TestAFullLaneTakesAMarker: of a source, and of a task in the middle.
func TestAFullLaneTakesAMarker(t *testing.T) {
	k := kindOf(line(), "a=1 | b=2")
	inModes(t, "P16.4", slowModes, k, "0.0 = step", "0.0 = block", "trigger = 1", "0.0 = mark", "abort = 1", "trigger = 2", "0.0 = mark", "0.0 = block", "1.0 = step", "0.0 = step", "1.0 = mark", "1.0 = mark", "1.0 = step")
	m := kindOf(pen.ReadPlan("s source 0", "m map key ; val+1", "k sink", "s.0 m.0", "m.0 k.0"), "a=1 | b=2")
	inModes(t, "P16.4", slowModes, m, "0.0 = step", "1.0 = step", "trigger = 1", "0.0 = mark", "1.0 = mark", "0.0 = step", "1.0 = block", "2.0 = step", "1.0 = step", "2.0 = mark", "2.0 = step")
}

// TestARecordedStart: what lay in the lanes at the beginning is recorded as what came later is.
func TestARecordedStart(t *testing.T) {
	k := kindOf(pair(), "a=1 / x=1").with(4).at("0 / 0 / 0 / 0", "w=1 / y=2 | z=3 / ", "")
	inModes(t, "P16.4", "recorded", k, "1.0 = step", "trigger = 1", "0.0 = mark", "2.0 = step", "2.0 = mark", "2.1 = step", "1.0 = mark", "2.1 = step", "2.1 = step", "2.1 = mark", "3.0 = step", "3.0 = mark", "post", "post", "post", "post = ready: 1 77 {0} {1} {0 [] [y=2 | z=3 | x=1]} {1 [] <w=1>}")
	inModes(t, "P16.4", "overtaking", k, "1.0 = step", "trigger = 1", "0.0 = mark", "2.0 = mark", "2.1 = step", "1.0 = mark", "2.1 = mark", "3.0 = mark", "post", "post", "post", "post = ready: 1 77 {0} {1} {0 [w=1] [y=2 | z=3 | x=1]} {0 []}")
	inModes(t, "P16.4", "aligned", k, "1.0 = step", "trigger = 1", "0.0 = mark", "2.0 = step", "2.0 = mark", "2.1 = step", "1.0 = mark", "2.1 = step", "2.1 = step", "2.1 = mark", "3.0 = step", "3.0 = step", "3.0 = step", "3.0 = step", "3.0 = mark", "post", "post", "post", "post = ready: 1 77 {0} {1} {0 [] []} {4 [] <w=1 | y=2 | z=3 | x=1>}")
}

// TestDroppedParts: a part for a snapshot that is given up is in the trail, and in no shot.
func TestDroppedParts(t *testing.T) {
	k := kindOf(line(), "a=1 | b=2").with(4)
	inModes(t, "P16.4, P16.8", allModes, k, "trigger = 1", "abort = 1", "0.0 = mark", "1.0 = mark", "post = empty", "trail = trigger 1, abort 1, mark 0.0 1, copy 0 1, part 0 1, mark 1.0 1, copy 1 1, part 1 1", "trigger = 2", "post = empty", "under = 2 0 1", "0.0 = mark", "1.0 = mark", "post = ack", "under = 2 1", "post = ready: 2 77 {0} {0 []}")
	inModes(t, "P16.4, P16.8", slowModes, k, "trigger = 1", "0.0 = mark", "0.0 = step", "abort = 1", "trigger = 2", "1.0 = mark", "1.0 = step", "post = empty", "0.0 = mark", "1.0 = mark", "post = ack", "post = ready: 2 77 {1} {1 [] <a=1>}",
		"trail = trigger 1, mark 0.0 1, copy 0 1, part 0 1, step 0.0, abort 1, trigger 2, mark 1.0 1, copy 1 1, part 1 1, step 1.0, mark 0.0 2, copy 0 2, part 0 2, mark 1.0 2, copy 1 2, part 1 2, ready 2")
}

// TestBlocks: one full lane of several is enough, and nothing changes; lanes that the step doesn't send to may be full.
func TestBlocks(t *testing.T) {
	k := kindOf(fork(), "a=1 | b=2 | c=3")
	inModes(t, "P16.5", allModes, k, "1.0 = step", "3.0 = step", "1.0 = step", "3.0 = block", "0.0 = step", "3.0 = block", "2.0 = step", "3.0 = block", "config = 1 / 2 / 1 / 0 / 0 # / b=2 / / a=1 # a=1 / a=1 / ", "4.0 = step", "3.0 = step", "config = 1 / 2 / 1 / 0 / 1 # b=2 / / b=2 / b=2 # a=1 / a=1 / a=1",
		"1.0 = step", "4.0 = step", "3.0 = block", "2.0 = step", "3.0 = block", "0.0 = step", "3.0 = step")
	x := kindOf(pen.ReadPlan("s source 0", "x split val", "k sink", "l sink", "s.0 x.0", "x.0 k.0", "x.1 l.0"), "a=0 | b=0 | c=1 | d=1")
	inModes(t, "P16.5", allModes, x, "0.0 = step", "1.0 = step", "0.0 = step", "1.0 = block", "0.0 = block", "2.0 = step", "1.0 = step", "0.0 = step", "1.0 = step", "0.0 = step", "1.0 = block", "config = 4 / 0 / 1 / 0 # d=1 / b=0 / c=1 # a=0 /", "3.0 = step", "1.0 = step")
}

// TestStepsThatSendNothing: they need no room.
func TestStepsThatSendNothing(t *testing.T) {
	for _, of := range []string{"filter val==1", "window 2", "dedup"} {
		p := pen.ReadPlan("s source 0", "m "+of, "k sink", "s.0 m.0", "m.0 k.0")
		tapes := map[string]string{"filter val==1": "a=1 | a=2 | a=1", "window 2": "a=1 | a=2 | b=1 | b=2", "dedup": "a=1 | a=2 | b=1"}
		k := kindOf(p, tapes[of])
		lead := []string{"0.0 = step", "1.0 = step"}
		if of == "window 2" {
			lead = append(lead, lead...)
		}
		inModes(t, "P16.5", allModes, k, append(lead, "0.0 = step", "1.0 = step", "0.0 = step", "1.0 = block", "2.0 = step", "1.0 = step")...)
	}
}

// TestAStep: what each kind of task changes.
func TestAStep(t *testing.T) {
	k := kindOf(pair(), "a=1 | b=2 / x=1").with(2)
	inModes(t, "P16.5", allModes, k, "0.0 = step", "config = 1 / 0 / 0 / 0 # a=1 / / #", "0.0 = step", "config = 2 / 0 / 0 / 0 # a=1 | b=2 / / #", "1.0 = step", "2.1 = step", "config = 2 / 1 / 0 / 0 # a=1 | b=2 / / x=1 #", "2.0 = step", "2.0 = block", "3.0 = step", "2.0 = step",
		"config = 2 / 1 / 0 / 1 # / / a=1 | b=2 # x=1", "3.0 = step", "3.0 = step", "3.0 = empty", "config = 2 / 1 / 0 / 3 # / / # x=1 | a=1 | b=2", "trail = step 0.0, step 0.0, step 1.0, step 2.1, step 2.0, step 3.0, step 2.0, step 3.0, step 3.0")
	l := kindOf(loop(), "a=1")
	inModes(t, "P16.5", allModes, l, "0.0 = step", "1.1 = empty", "1.0 = step", "2.0 = step", "1.0 = empty", "1.1 = step", "2.0 = step", "config = 1 / 0 / 0 / 0 # / / a=1@2 / #", "1.1 = step", "2.0 = step", "3.0 = step", "config = 1 / 0 / 0 / 1 # / / / # a=1",
		"trail = step 0.0, step 1.0, step 2.0, step 1.1, step 2.0, step 1.1, step 2.0, step 3.0")
}

// TestTheChaptersExamples: numbers 1 to 3.
func TestTheChaptersExamples(t *testing.T) {
	k := kindOf(line(), "a=1 | b=2")
	plays(t, "Example 1", k.in(api.Recorded), "0.0 = step", "0.0 = block", "trigger = 1", "0.0 = mark", "1.0 = step", "0.0 = step", "1.0 = mark", "post = ack", "post = ready: 1 77 {1} {1 [] <a=1>}", "1.0 = step", "config = 2 / 2 # # a=1 | b=2",
		"trail = step 0.0, trigger 1, mark 0.0 1, copy 0 1, part 0 1, step 1.0, step 0.0, mark 1.0 1, copy 1 1, part 1 1, ready 1, step 1.0")
	plays(t, "Example 2", k.in(api.Overtaking), "0.0 = step", "0.0 = block", "trigger = 1", "0.0 = mark", "1.0 = mark", "config = 1 / 0 # a=1 #", "post = ack", "post = ready: 1 77 {1} {0 [a=1]}")
	inModes(t, "Example 3", allModes, k, "2.0 = nothing", "0.1 = nothing", "-1.0 = nothing")
}
