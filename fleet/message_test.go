package fleet_test

import (
	"bytes"
	"fmt"
	"slices"
	"strings"
	"testing"

	"eddy/api"
	"eddy/equal"
	"eddy/pen"
)

// bodyInFlight gives the body of the only data packet in flight: all but the frame around it.
func bodyInFlight(t *testing.T, s system) []byte {
	t.Helper()
	var found []byte
	for _, f := range s.Flights() {
		if len(f.Data) > 8 && f.Data[4] == 0x44 {
			if found != nil {
				t.Fatal("P24.7: more than one data packet is in flight")
			}
			found = f.Data[4 : len(f.Data)-4]
		}
	}
	return found
}

// TestMessagesOfRecords: the byte 82, and the record's bytes, byte by byte.
func TestMessagesOfRecords(t *testing.T) {
	long := pen.ReadValue(`["` + strings.Repeat(`a`, 24) + `", ["b", ["c", 9223372036854775807, -9223372036854775808], none, 64], ""]`)
	for _, x := range []struct {
		record api.Record
		want   string
	}{
		{api.Record{}, "44 00 01 52 00 00 00"},
		{pen.ReadRecord("a=none"), "44 00 01 52 01 61 00 00"},
		{pen.ReadRecord("twelve bytes=1"), "44 00 01 52 0c 74 77 65 6c 76 65 20 62 79 74 65 73 01 02 00"},
		{pen.ReadRecord("a=-1"), "44 00 01 52 01 61 01 01 00"},
		{pen.ReadRecord("\xff=\"\""), "44 00 01 52 01 ff 02 00 00"},
		{pen.ReadRecord("a=[]"), "44 00 01 52 01 61 03 00 00"},
		{api.Record{Key: "k", Val: long}, "44 00 01 52 01 6b 03 03 02 18" + strings.Repeat(" 61", 24) + " 03 04 02 01 62 03 03 02 01 63 01 fe ff ff ff ff ff ff ff ff 01 01 ff ff ff ff ff ff ff ff ff 01 00 01 80 01 02 00 00"},
	} {
		k := kindOf(line(), "", 0, 1)
		k.tapes = [][]api.Record{{x.record}}
		f := k.open(t)
		f.Pick(0, 0)
		f.Tick(0)
		if got := fmt.Sprintf("% x", bodyInFlight(t, f)); got != x.want {
			t.Errorf("P24.3: the record %s goes as %s, want %s", pen.TellRecord(x.record), got, x.want)
		}
		f.Deliver(0)
		f.Pick(1, 0)
		if c := f.Config(); !equal.Records(c.Outs[0], k.tapes[0]) {
			t.Errorf("P24.3: the record %s comes out as %s", pen.TellRecord(x.record), pen.TellLists(c.Outs))
		}
	}
}

// TestMessagesWithLoops: loop counters go with a record, none to three of them.
func TestMessagesWithLoops(t *testing.T) {
	for loops, want := range []string{"00", "01 09", "02 00 09", "03 09 00 05"} {
		k := kindOf(chain(), "", 0, 0, 7)
		r := api.Record{Key: "a", Loops: [][]int{nil, {9}, {0, 9}, {9, 0, 5}}[loops]}
		k.start.Lanes[0] = []api.Record{r}
		f := k.open(t)
		f.Pick(1, 0)
		f.Tick(1)
		if got := fmt.Sprintf("% x", bodyInFlight(t, f)); got != "44 01 01 52 01 61 00 "+want {
			t.Errorf("P24.3: the record %s goes as %s", pen.TellRecord(r), got)
		}
		f.Deliver(0)
		f.Pick(2, 0)
		if c := f.Config(); !equal.Records(c.Outs[0], []api.Record{r}) {
			t.Errorf("P24.3: the record %s comes out as %s", pen.TellRecord(r), pen.TellLists(c.Outs))
		}
	}
}

// TestMessagesOfMarkers: the byte 77 and the number, nothing else.
func TestMessagesOfMarkers(t *testing.T) {
	for id, want := range map[int]string{1: "01", 2: "02", 127: "7f", 128: "80 01", 300: "ac 02", 9998: "8e 4e", 9999: "8f 4e"} {
		for mode := 1; mode <= 3; mode++ {
			k := kindOf(line(), "a=1", 2, 1).in(mode).from(id)
			f := k.open(t)
			f.Trigger()
			f.Pick(0, 0)
			f.Tick(0)
			if got := fmt.Sprintf("% x", bodyInFlight(t, f)); got != "44 00 01 4d "+want {
				t.Errorf("P24.3: marker %d goes as %s", id, got)
			}
			f.Deliver(0)
			if f.Pick(1, 0) != api.DidMark || f.Trail()[4] != (api.Trail{Kind: api.TrailMark, Task: 1, Id: id}) {
				t.Errorf("P24.3: marker %d comes out so: %s", id, pen.TellTrail(f.Trail()))
			}
		}
	}
}

// TestMessagesInTheirOrder: records and markers, as the runner would lay them, each with the number of its place.
func TestMessagesInTheirOrder(t *testing.T) {
	k := kindOf(line(), "a=1 | b=2 | c=3", 0, 1).with(8)
	inModes(t, "P24.3", allModes, k, "0.0", "trigger", "0.0 = mark", "0.0", "abort", "trigger", "0.0 = mark", "0.0", "tick 0 = 6",
		"flights = 0>1 data 0.1 a=1, 0>1 data 0.2 marker 1, 0>1 data 0.3 b=2, 0>1 data 0.4 marker 2, 0>1 data 0.5 c=3, 1>0 answer 0 wants 1 word 0")
	wide := kindOf(fork(), "a=1 | b=2", 1, 2, 3, 2, 4).with(2)
	inModes(t, "P24.3", allModes, wide, "1.0", "3.0", "trigger", "1.0", "3.0 = mark", "1.0", "3.0", "tick 1 = 0", "tick 0 = 4", "tick 2 = 4", "tick 3 = 4",
		"flights = 2>3 data 0.1 a=1, 2>3 data 0.2 marker 1, 2>3 data 0.3 b=2, 3>2 answer 0 wants 1 word 0, 2>1 data 2.1 a=1, 2>1 data 2.2 marker 1, 2>1 data 2.3 b=2, 1>2 answer 2 wants 1 word 0, 2>4 data 3.1 a=1, 2>4 data 3.2 marker 1, 2>4 data 3.3 b=2, 4>2 answer 3 wants 1 word 0")
}

// largest gives a record of as many bytes as a record may have.
func largest() api.Record {
	text := strings.Repeat("z", 24)
	texts := pen.ReadValue(`["` + strings.Join([]string{text, text, text, text, text}, `", "`) + `"]`)
	v := api.Value{Kind: api.List, Items: append(slices.Clone(texts.Items), texts)}
	return api.Record{Key: "twelve bytes", Val: v, Loops: []int{9, 9, 9}}
}

// TestTheLargestMessage: it goes, and comes in, as any other.
func TestTheLargestMessage(t *testing.T) {
	k := kindOf(chain(), "", 0, 0, 1).in(api.Overtaking)
	k.start.Lanes[0] = []api.Record{largest()}
	f := k.open(t)
	if f.Pick(1, 0) != api.DidStep {
		t.Fatal("P24.6: a large record isn't worked")
	}
	f.Tick(1)
	if got := bodyInFlight(t, f); !bytes.Equal(got[3:], messageOf(api.Item{Rec: largest()})) {
		t.Errorf("P24.3: a large record goes as % x", got)
	}
	f.Deliver(0)
	if c := f.Config(); !equal.Records(c.Lanes[1], []api.Record{largest()}) || f.Here()[1] != 1 {
		t.Errorf("P24.8: a large record comes in as %s", pen.TellConfig(c))
	}
}
