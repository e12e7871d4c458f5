package fleet_test

import (
	"fmt"
	"testing"

	"eddy/api"
	"eddy/pen"
)

// TestMessagesThatAreNoItem: what spoilt bits make, and is neither a marker nor a record, is let go; what it was made of has come in.
func TestMessagesThatAreNoItem(t *testing.T) {
	k := kindOf(line(), "a=1 | b=2", 0, 1).with(4)
	for _, message := range []string{
		"53 01 61 01 02 00", "4d 01 61 01 02 00", "00 00 00 00 00 00", "52 0d 61 01 02 00", "52 01 61 04 02 00", "52 01 61 01 02 01", "52 00 00 00 00 00", "52 01 61 00 00 00", "4d 01 00 00 00 00", "4d 80 80 80 80 01", "4d 90 ce 80 80 00",
	} {
		inModes(t, "P24.8", allModes, k, "0.0", "0.0", "tick 0 = 3", "forge 0 data 0.1 "+message, "config = 2 / 0 # a=1 | b=2 #", "deliver 0 = yes", "flights = 0>1 data 0.2 b=2, 1>0 answer 0 wants 1 word 0, 1>0 answer 0 wants 2 word 0",
			"here = 0", "config = 2 / 0 # b=2 #", "1.0 = empty", "deliver 0", "here = 1", "1.0 = step", "config = 2 / 1 # # b=2", "tick 0 = 3", "deliver 1", "tick 0 = 2", "trail = step 0.0, step 0.0, step 1.0")
	}
}

// forgedMarker puts the marker 300 (of two groups) and makes another message of it.
func forgedMarker(message string) []string {
	return []string{"trigger = 300", "0.0 = mark", "tick 0 = 2", "forge 0 data 0.1 " + message, "deliver 0 = yes", "flights = 1>0 answer 0 wants 1 word 0, 1>0 answer 0 wants 2 word 0"}
}

// TestMarkersAtTheirBounds: 1 to MaxId, in their one form, with nothing behind.
func TestMarkersAtTheirBounds(t *testing.T) {
	k := kindOf(line(), "a=1", 0, 1).from(300)
	for message, id := range map[string]string{"4d 8f 4e": "9999", "4d 80 01": "128", "4d ac 02": "300", "4d ff 7e": "", "4d 90 4e": "", "4d 81 00": "", "4d 80 00": "", "4d 01 00": "", "4d 01 01": "", "4d 00 00": "", "4d 7f 00": "", "4d 80 80": "", "4d ff ff": "", "52 00 00": "", "52 ac 02": "", "4c ac 02": ""} {
		lines := forgedMarker(message)
		if id == "" {
			inModes(t, "P24.8", allModes, k, append(lines, "here = 0", "1.0 = empty", "config = 0 / 0 # #")...)
			continue
		}
		inModes(t, "P24.8", allModes, k, append(lines, "here = 1", "1.0 = mark", "trail = trigger 300, mark 0.0 300, copy 0 300, part 0 300, mark 1.0 "+id+", copy 1 "+id+", part 1 "+id)...)
	}
	// 1 and 127 have one group: of a marker of one group another one is made.
	one := kindOf(line(), "a=1", 0, 1)
	for message, id := range map[string]string{"4d 01": "1", "4d 7f": "127", "4d 02": "2", "4d 00": "", "4d 80": "", "52 01": "", "00 00": ""} {
		lines := []string{"trigger = 1", "0.0 = mark", "tick 0 = 2", "forge 0 data 0.1 " + message, "deliver 0 = yes"}
		if id == "" {
			inModes(t, "P24.8", allModes, one, append(lines, "here = 0", "1.0 = empty")...)
			continue
		}
		inModes(t, "P24.8", allModes, one, append(lines, "here = 1", "1.0 = mark", "trail = trigger 1, mark 0.0 1, copy 0 1, part 0 1, mark 1.0 "+id+", copy 1 "+id+", part 1 "+id)...)
	}
}

// TestMessagesOfAByte: and of none; a link carries such ones, and they are no items.
func TestMessagesOfAByte(t *testing.T) {
	k := kindOf(line(), "a=1", 0, 1)
	// Of the three bytes of a number and a marker the number alone takes all: it is beyond the window.
	inModes(t, "P24.8", allModes, k, "trigger", "0.0 = mark", "tick 0 = 2", "forge 0 data 0.16384", "flights = 0>1 data 0.16384, 1>0 answer 0 wants 1 word 0", "deliver 0 = yes", "flights = 1>0 answer 0 wants 1 word 0, 1>0 answer 0 wants 1 word 0", "here = 0", "tick 0 = 2")
	// Or it takes two: then it can be the next one behind 127.
	lines := markers(127)
	for range 119 {
		lines = append(lines, "tick 0", "deliver 0", "deliver last")
		for range 16 {
			lines = append(lines, "drop 0")
		}
	}
	for _, message := range []string{"4d", "52", "00", "01"} {
		inModes(t, "P24.8", allModes, k, joined(lines, "here = 119", "tick 0 = 9", "copy 7 = yes", "flights = 0>1 data 0.120 marker 120, 0>1 data 0.121 marker 121, 0>1 data 0.122 marker 122, 0>1 data 0.123 marker 123, 0>1 data 0.124 marker 124, 0>1 data 0.125 marker 125, 0>1 data 0.126 marker 126, 0>1 data 0.127 marker 127, 1>0 answer 0 wants 120 word 0, 0>1 data 0.127 marker 127",
			"forge last data 0.128 "+message, "deliver last", repeated("deliver 0", 8), "here = 127", "flights = 1>0 answer 0 wants 120 word 0, 1>0 answer 0 wants 120 word 0, 1>0 answer 0 wants 121 word 0, 1>0 answer 0 wants 122 word 0, 1>0 answer 0 wants 123 word 0, 1>0 answer 0 wants 124 word 0, 1>0 answer 0 wants 125 word 0, 1>0 answer 0 wants 126 word 0, 1>0 answer 0 wants 127 word 0, 1>0 answer 0 wants 129 word 0", "0.0 = step", "config = 1 / 0 # #")...)
	}
}

// TestOtherItems: a record may become another one, or a marker a record; the lane holds what came in.
func TestOtherItems(t *testing.T) {
	k := kindOf(line(), "a=1 | b=2", 0, 1).with(4)
	inModes(t, "P24.10", allModes, k, "0.0", "0.0", "tick 0 = 3", "forge 0 data 0.1 z=-9", "config = 2 / 0 # a=1 | b=2 #", "deliver 0", "config = 2 / 0 # z=-9 | b=2 #", "here = 1", "1.0 = step", "config = 2 / 1 # b=2 # z=-9", "tick 0 = 3")
	// A word counts what was worked, whatever it was.
	inModes(t, "P24.5", allModes, k.with(1), "0.0", "tick 0", "forge 0 data 0.1 z=-9", "deliver 0", "0.0 = block", "1.0 = step", "tick 0 = 2", "flights = 1>0 answer 0 wants 1 word 0, 1>0 answer 0 wants 2 word 0, 0>1 data 0.1 a=1, 1>0 answer 0 wants 2 word 1", "deliver 3", "0.0 = step")
	// Key and value of no bytes: a record of as many bytes as a marker of three groups would have.
	none := kindOf(line(), "=none", 0, 1)
	inModes(t, "P24.8", allModes, none, "0.0", "tick 0", "flights = 0>1 data 0.1 =none, 1>0 answer 0 wants 1 word 0", "forge 0 data 0.1 4d 81 80 00", "deliver 0", "here = 0", "config = 1 / 0 # #")
}

// TestAheadOfWhatIsPut: a message that spoilt bits made of another one may have come in ahead of the one that has its number.
func TestAheadOfWhatIsPut(t *testing.T) {
	k := kindOf(line(), "a=1 | b=2 | c=3", 0, 1).with(8)
	lead := []string{"0.0", "tick 0 = 2", "copy 0", "forge 0 data 0.2 z=9", "deliver 0", "here = 0", "config = 1 / 0 # a=1 #", "deliver 1", "here = 2", "config = 1 / 0 # a=1 | z=9 #", "flights = 1>0 answer 0 wants 1 word 0, 1>0 answer 0 wants 1 word 0, 1>0 answer 0 wants 3 word 0"}
	// The sending end refuses the answer: it has put no second message.
	lead = append(lead, "deliver 2", "tick 0 = 2")
	inModes(t, "P24.10", allModes, k, append(lead, "0.0 = step", "config = 2 / 0 # a=1 | z=9 #", "tick 0 = 3", "0.0 = step", "config = 3 / 0 # a=1 | z=9 | c=3 #", "here = 2", "tick 0 = 4", "deliver last", "tick 0 = 2", "drop last", "deliver last", "here = 3", "config = 3 / 0 # a=1 | z=9 | c=3 #", "1.0", "1.0", "1.0", "config = 3 / 3 # # a=1 | z=9 | c=3")...)
	// A marker that is put behind counts as one that has come in.
	inModes(t, "P24.10", allModes, k, append(lead, "trigger", "0.0 = mark", "here = 2", "0.0 = step", "config = 2 / 0 # a=1 | z=9 | b=2 #", "1.0 = step", "1.0 = step", "1.0 = empty")...)
	// More words than records: there is more room than Cap says, and that is all.
	inModes(t, "P24.4", allModes, k.with(1), append(lead, "1.0 = step", "1.0 = step", "0.0 = block", "tick 0 = 2", "deliver last", "0.0 = block", "config = 1 / 2 # # a=1 | z=9")...)
}

// TestForgedAnswers: the sending end takes an answer as it is.
func TestForgedAnswers(t *testing.T) {
	k := kindOf(line(), "a=1 | b=2 | c=3", 0, 1).with(1)
	// A word that nobody told makes room.
	inModes(t, "P24.4", allModes, k, "0.0", "0.0 = block", "tick 0 = 2", "forge 1 answer 0 wants 1 word 1", "deliver 1", "0.0 = step", "0.0 = block", "config = 2 / 0 # a=1 | b=2 #", "tick 0 = 3", "forge last answer 0 wants 1 word 127", "deliver last", "0.0 = step", "0.0 = empty", "config = 3 / 0 # a=1 | b=2 | c=3 #")
	// A message that is answered and hasn't come in is never sent again, and stays on its way.
	inModes(t, "P24.10", allModes, k.with(4), "0.0", "0.0", "tick 0 = 3", "forge 2 answer 0 wants 2 word 0", "deliver 2", "drop 0", "tick 0 = 2", "flights = 0>1 data 0.2 b=2, 0>1 data 0.2 b=2, 1>0 answer 0 wants 1 word 0", "deliver 0", "deliver 0", "here = 0", "config = 2 / 0 # a=1 | b=2 #", "0.0 = step", "config = 3 / 0 # a=1 | b=2 | c=3 #", "1.0 = empty")
	// One that answers what wasn't put is refused, its word too.
	inModes(t, "P24.8", allModes, k, "0.0", "tick 0 = 2", "forge 1 answer 0 wants 3 word 5", "deliver 1", "tick 0 = 2", "0.0 = block", "forge 2 answer 0 wants 0 word 5", "deliver 2", "0.0 = block")
}

// TestBeyondTheWindow: a message far ahead is let go, and answered.
func TestBeyondTheWindow(t *testing.T) {
	k := kindOf(line(), "a=1 | b=2", 0, 1).with(4)
	for _, number := range []int{17, 18, 127} {
		inModes(t, "P24.8", allModes, k, "0.0", "tick 0", "copy 0", fmt.Sprint("forge 0 data 0.", number, " z=9"), "deliver 0", "flights = 1>0 answer 0 wants 1 word 0, 0>1 data 0.1 a=1, 1>0 answer 0 wants 1 word 0", "deliver 1", "here = 1", "config = 1 / 0 # a=1 #")
	}
	// The last one of the window is kept till its turn comes.
	inModes(t, "P24.8", allModes, k, "0.0", "tick 0", "copy 0", "forge 0 data 0.16 z=9", "deliver 0", "deliver 1", "here = 1", "flights = 1>0 answer 0 wants 1 word 0, 1>0 answer 0 wants 1 word 0, 1>0 answer 0 wants 2 word 0")
}

// TestLanesThatAreNotThere: a packet of no edge, of a local one, or of one that doesn't end at this machine is let go, without an answer.
func TestLanesThatAreNotThere(t *testing.T) {
	// Edges 0: 0 to 1, 1: within 1, 2: 1 to 2, 3: 0 to 2, 4: 2 to 0.
	p := pen.ReadPlan("s source 0", "u union", "v union", "w union", "r source 0", "k sink", "s.0 u.0", "u.0 v.0", "v.0 w.0", "r.0 w.1", "w.0 k.0")
	k := kindOf(p, "a=1 | b=2", 0, 1, 1, 2, 0, 0).with(4)
	for _, x := range []struct{ letter, why string }{
		{"data 1.1 a=1", "a local edge's"}, {"data 2.1 a=1", "its To is at machine 2"}, {"data 3.1 a=1", "its To is at machine 2"}, {"data 4.1 a=1", "its To is at machine 0"},
		{"data 5.1 a=1", "no edge's"}, {"data 23.1 a=1", "no edge's"}, {"data 24.1 a=1", "no packet"}, {"data 0.0 a=1", "no packet"},
	} {
		inModes(t, "P24.8", allModes, k, "0.0", "tick 0", "forge 0 "+x.letter, "deliver 0 = yes", "flights = 1>0 answer 0 wants 1 word 0", "here = 0 0 0 0 0", "config = 1 / 0 / 0 / 0 / 0 / 0 # a=1 / / / / #", "tick 0 = 2", "tick 1 = 0", "tick 2 = 1", "tick 3 = 1", "tick 4 = 1")
	}
	// Of an answer the edge's From counts: edges 0, 3 and 4 have theirs at 0, 0 and 2.
	for _, letter := range []string{"answer 1 wants 2 word 1", "answer 2 wants 2 word 1", "answer 4 wants 2 word 1", "answer 5 wants 2 word 1", "answer 23 wants 2 word 1", "answer 24 wants 2 word 1"} {
		inModes(t, "P24.8", allModes, k.with(1), "0.0", "0.0 = block", "tick 0", "forge 1 "+letter, "deliver 1 = yes", "tick 0 = 2", "0.0 = block")
	}
	// Where it is sent from doesn't count: at machine 0, edge 1's message stays open, and machine 2 is no end of edge 0.
	far := kindOf(chain(), "", 0, 1, 2).at("0 / 0 / 0", "x=1 | y=2 /", "")
	inModes(t, "P24.8", allModes, far, "1.0 = step", "tick 0 = 1", "forge 0 answer 1 wants 2 word 1", "deliver 0 = yes", "tick 1 = 2", "1.0 = block", "deliver 0 = yes", "tick 1 = 2", "forge last answer 0 wants 1 word 1", "deliver last = yes", "1.0 = block")
}

// TestAnotherEdgeOfTheMachine: who takes a packet is told by its lane and by where it comes in alone.
func TestAnotherEdgeOfTheMachine(t *testing.T) {
	k := kindOf(pair(), "a=1 | b=2 / x=1", 0, 1, 2, 2).with(1)
	// A data packet of edge 0 is taken as one of edge 1, which ends at that machine too; its answer goes to where edge 1 begins.
	inModes(t, "P24.8", allModes, k, "0.0", "tick 0", "forge 0 data 1.1 a=1", "deliver 0", "flights = 2>0 answer 0 wants 1 word 0, 2>1 answer 1 wants 2 word 0", "here = 0 1 0", "config = 1 / 0 / 0 / 0 # a=1 / a=1 / #", "2.0 = empty", "2.1 = step", "tick 0 = 2", "tick 1 = 1",
		"flights = 2>0 answer 0 wants 1 word 0, 2>1 answer 1 wants 2 word 0, 0>2 data 0.1 a=1, 2>0 answer 0 wants 1 word 0, 2>1 answer 1 wants 2 word 1", "1.0 = step", "config = 1 / 1 / 0 / 0 # a=1 / / a=1 #")
	// An answer of one edge as one of another that begins at the same machine.
	fan := kindOf(splits(), "a=0 | b=0 | c=1", 0, 0, 1, 2).with(1)
	inModes(t, "P24.8", allModes, fan, "0.0", "1.0 = step", "0.0", "1.0 = block", "tick 2 = 1", "forge 0 answer 1 wants 2 word 1", "deliver 0", "1.0 = step", "tick 1 = 2", "flights = 0>1 data 1.2 b=0, 1>0 answer 1 wants 1 word 0")
	// A packet of data as an answer, where the lane that it tells begins at the machine at which it comes in.
	back := kindOf(loop(), "a=1", 0, 0, 1, 1).with(4).at("0 / 0 / 0 / 0", "/ x=1@0 / /", "")
	inModes(t, "P24.8", allModes, back, "2.0 = step", "trigger", "0.0 = mark", "1.0 = mark", "tick 2 = 2", "tick 1 = 2", "flights = 1>0 data 2.1 x=1@1, 0>1 answer 2 wants 1 word 0, 0>1 data 1.1 marker 1, 1>0 answer 1 wants 1 word 1",
		"forge 2 answer 2 wants 2 word 200", "deliver 2", "tick 2 = 1", "here = 0 0 0 0", "config = 0 / 0 / 0 / 0 # / / x=1@1 / #")
}

// TestForgedRecordsAreWorked: as any other, by tasks of all kinds that there are.
func TestForgedRecordsAreWorked(t *testing.T) {
	met := map[int]int{}
	for seed := range 400 {
		w := seeded(30000 + seed)
		p := w.Plan()
		k := w.kindOf(p).in(w.Between(1, 3))
		for task := range k.place {
			k.place[task] = task % 8
		}
		f, m := k.open(t), k.model()
		for range 300 {
			c := w.call(m)
			if c.What == "flip" {
				continue
			}
			if c.What == "deliver" && w.Below(3) > 0 {
				for _, flip := range w.forgery(m) {
					flip.of(f)
					flip.of(m)
				}
			}
			got, want := c.of(f), c.of(m)
			if !same(got, want) {
				t.Fatalf("P24.6, P24.8: %v: with forged packets %v answers %s, want %s", k, c, c.told(got), c.told(want))
			}
			if c.What == "pick" && got.Number == api.DidStep {
				met[p.Tasks[c.A].Kind]++
			}
		}
		for _, q := range questions() {
			if got, want := q.of(f), q.of(m); !same(got, want) {
				t.Fatalf("P24.10, P24.11: %v: with forged packets %v answers %s, want %s", k, q, q.told(got), q.told(want))
			}
		}
	}
	for kind := api.Source; kind <= api.Sink; kind++ {
		if met[kind] < 20 {
			t.Errorf("tasks of kind %d do %d steps", kind, met[kind])
		}
	}
}
