package wire_test

import (
	"slices"
	"testing"

	"eddy/api"
)

func TestRecords(t *testing.T) {
	k := kindNamed("Record")
	k.bothWays(t, "P4.6", api.Record{Key: "a", Val: num(5), Loops: []int{0, 2}}, hex("01 61 01 0A 02 00 02"))
	k.bothWays(t, "P4.6", api.Record{Key: "a", Val: num(5)}, hex("01 61 01 0A 00"))
	k.bothWays(t, "P4.6", api.Record{}, hex("00 00 00"))
	k.bothWays(t, "P4.6", api.Record{Key: long(12), Val: text("x"), Loops: []int{9, 0, 9}}, join(hex("0C"), []byte(long(12)), hex("02 01 78 03 09 00 09")))
	for _, c := range []struct {
		bytes string
		want  api.Errno
	}{
		{"01 61 01 0A 02 00", api.ErrWireShort}, {"01 61 01 0A 02 00 0A", api.ErrWireBound}, {"01 61 01", api.ErrValSyntax}, {"0D", api.ErrWireBound}, {"8D 00", api.ErrWireForm},
		{"80 80 80 80 80", api.ErrWireForm}, {"80 80 80 80", api.ErrWireShort}, {"", api.ErrWireShort}, {"01", api.ErrWireShort}, {"01 61", api.ErrValSyntax}, {"01 61 00", api.ErrWireShort},
		{"01 61 00 04", api.ErrWireBound}, {"01 61 00 01 89 00", api.ErrWireForm}, {"01 61 00 02 0A 80", api.ErrWireBound},
	} {
		k.refuses(t, "P4.6", hex(c.bytes), c.want)
	}
}

func TestCellsAndStates(t *testing.T) {
	k := kindNamed("State")
	k.bothWays(t, "P4.8", api.State{Num: 300, Cells: []api.Cell{{Key: "k"}}}, hex("AC 02 01 01 6B 00"))
	k.bothWays(t, "P4.8", api.State{}, hex("00 00"))
	k.bothWays(t, "P4.7", api.State{Cells: []api.Cell{{Key: "a", Vals: []api.Value{num(1), none}}, {Key: "b", Vals: slices.Repeat([]api.Value{none}, 6)}}}, hex("00 02 01 61 02 01 02 00 01 62 06 00 00 00 00 00 00"))
	k.refuses(t, "P4.7", hex("00 01 01 61 07 00 00 00 00 00 00 00"), api.ErrWireBound)
	k.refuses(t, "P4.7", hex("00 01 01 61"), api.ErrWireShort)
	k.refuses(t, "P4.7", hex("00 01"), api.ErrWireShort)
	k.refuses(t, "P4.8", hex("00"), api.ErrWireShort)
	k.refuses(t, "P4.8", hex(""), api.ErrWireShort)
	k.bothWays(t, "P4.8", api.State{Num: 1 << 30, Cells: cells(64)}, k.lay(api.State{Num: 1 << 30, Cells: cells(64)}))
	k.refuses(t, "P4.8", k.lay(api.State{Cells: cells(65)}), api.ErrWireBound)
}

// A pair of keys, the second behind the first.
type pair struct {
	a, b string
}

func risingPairs() []pair {
	return []pair{{"", "\x00"}, {"", "a"}, {"a", "aa"}, {"a", "b"}, {"a\xff", "b"}, {"Z", "a"}, {"\x7f", "\x80"}, {"z", "\xff"}, {long(11), long(12)}, {"aab", "ab"}}
}

func TestKeysRise(t *testing.T) {
	state, segment := kindNamed("State"), kindNamed("Segment")
	inState := func(p pair) api.State { return api.State{Cells: []api.Cell{{Key: p.a}, {Key: p.b}}} }
	inSet := func(p pair) api.Segment {
		return api.Segment{Base: 1, Delta: api.Delta{Set: []api.Cell{{Key: p.a}, {Key: p.b}}}}
	}
	inGone := func(p pair) api.Segment { return api.Segment{Base: 1, Delta: api.Delta{Gone: []string{p.a, p.b}}} }
	for _, p := range risingPairs() {
		state.bothWays(t, "P4.8", inState(p), state.lay(inState(p)))
		segment.bothWays(t, "P4.9", inSet(p), segment.lay(inSet(p)))
		segment.bothWays(t, "P4.9", inGone(p), segment.lay(inGone(p)))
		for _, bad := range []pair{{p.b, p.a}, {p.a, p.a}, {p.b, p.b}} {
			state.refuses(t, "P4.8", state.lay(inState(bad)), api.ErrWireOrder)
			segment.refuses(t, "P4.9", segment.lay(inSet(bad)), api.ErrWireOrder)
			segment.refuses(t, "P4.9", segment.lay(inGone(bad)), api.ErrWireOrder)
			state.unfit(t, "P4.13", inState(bad), api.ErrValCells)
			segment.unfit(t, "P4.13", inSet(bad), api.ErrValCells)
			segment.unfit(t, "P4.13", inGone(bad), api.ErrWireOrder)
		}
	}
}

func TestTheKeyAheadIsTheLastOne(t *testing.T) {
	state, segment := kindNamed("State"), kindNamed("Segment")
	state.refuses(t, "P4.8", state.lay(api.State{Cells: []api.Cell{{Key: "a"}, {Key: "c"}, {Key: "b"}}}), api.ErrWireOrder)
	gone := api.Segment{Base: 1, Delta: api.Delta{Gone: []string{"a", "c", "b"}}}
	segment.refuses(t, "P4.9", segment.lay(gone), api.ErrWireOrder)
	segment.unfit(t, "P4.13", gone, api.ErrWireOrder)
}

// TestOrderIsLookedAtBehindTheKey: ahead of what the cell holds, and behind the key's own errors.
func TestOrderIsLookedAtBehindTheKey(t *testing.T) {
	state, segment := kindNamed("State"), kindNamed("Segment")
	state.refuses(t, "P4.8", hex("00 02 01 62 00 01 61 00"), api.ErrWireOrder)
	state.refuses(t, "P4.8", hex("00 02 01 62 00 01 61"), api.ErrWireOrder)
	state.refuses(t, "P4.8", hex("00 02 01 62 00 01 61 07"), api.ErrWireOrder)
	state.refuses(t, "P4.8", hex("00 02 01 62 00 01 61 01 09"), api.ErrWireOrder)
	state.refuses(t, "P4.8", hex("00 02 01 62 00 0D"), api.ErrWireBound)
	state.refuses(t, "P4.8", hex("00 02 01 62 00 02 61"), api.ErrWireShort)
	state.refuses(t, "P4.8", hex("00 02 01 62 00 81 00"), api.ErrWireForm)
	segment.refuses(t, "P4.9", hex("53 00 00 01 00 00 00 00 00 02 01 62 00 01 61 07"), api.ErrWireOrder)
	segment.refuses(t, "P4.9", hex("53 00 00 01 00 00 00 00 00 00 03 01 62 01 61 0D"), api.ErrWireOrder)
	segment.refuses(t, "P4.9", hex("53 00 00 01 00 00 00 00 00 00 02 01 62 01"), api.ErrWireShort)
}

func TestDeltas(t *testing.T) {
	k := kindNamed("Segment")
	both := api.Segment{Id: 2, Base: 1, Delta: api.Delta{Num: 1, Set: []api.Cell{{Key: "a", Vals: []api.Value{num(1)}}}, Gone: []string{"a", "b"}}}
	k.bothWays(t, "P4.9", both, hex("53 02 00 01 00 00 00 00 01 01 01 61 01 01 02 02 01 61 01 62 00 00"))
	apart := both
	apart.Delta.Set, apart.Delta.Gone = []api.Cell{{Key: "z"}}, []string{"", "a"}
	k.bothWays(t, "P4.9", apart, hex("53 02 00 01 00 00 00 00 01 01 01 7A 00 02 00 01 61 00 00"))
	full := api.Segment{Base: 1, Delta: api.Delta{Num: 1 << 30, Set: cells(64), Gone: keys(64)}}
	k.bothWays(t, "P4.9", full, k.lay(full))
	k.refuses(t, "P4.9", k.lay(api.Segment{Base: 1, Delta: api.Delta{Set: cells(65)}}), api.ErrWireBound)
	k.refuses(t, "P4.9", k.lay(api.Segment{Base: 1, Delta: api.Delta{Gone: keys(65)}}), api.ErrWireBound)
}

func TestSegments(t *testing.T) {
	k := kindNamed("Segment")
	k.bothWays(t, "P4.10", api.Segment{Id: 1, Logs: [][]api.Record{nil}}, hex("53 01 00 00 00 00 01 00 00"))
	k.bothWays(t, "P4.10", api.Segment{Id: 1, Base: 1}, hex("53 01 00 01 00 00 00 00 00 00 00 00 00"))
	k.bothWays(t, "P4.10", api.Segment{}, hex("53 00 00 00 00 00 00 00"))
	k.bothWays(t, "P4.10",
		api.Segment{Id: 9999, Task: 11, Base: 9999, BaseSum: 0xA1B2C3D4, Delta: api.Delta{Num: 3}, Logs: [][]api.Record{{{Key: "x"}, {Key: "y", Loops: []int{4}}}, nil, {{}}}, Pend: []api.Record{{Val: num(-1)}}},
		hex("53 8F 4E 0B 8F 4E D4 C3 B2 A1 03 00 00 03 02 01 78 00 00 01 79 00 01 04 00 01 00 00 00 01 00 01 01 00"))
	k.bothWays(t, "P4.10",
		api.Segment{Id: 128, Task: 1, State: api.State{Num: 2, Cells: []api.Cell{{Key: "c"}}}, Pend: []api.Record{{Key: "p"}}},
		hex("53 80 01 01 00 02 01 01 63 00 00 01 01 70 00 00"))
	many := make([]api.Record, 256)
	full := api.Segment{Logs: [][]api.Record{many, nil, many, many}, Pend: many}
	k.bothWays(t, "P4.10", full, k.lay(full))
	for _, c := range []struct {
		bytes string
		want  api.Errno
	}{
		{"53", api.ErrWireShort}, {"53 90 4E", api.ErrWireBound}, {"53 00 0C", api.ErrWireBound}, {"53 00 00 90 4E", api.ErrWireBound}, {"53 00 00", api.ErrWireShort}, {"53 00 00 00", api.ErrWireShort},
		{"53 00 00 01", api.ErrWireShort}, {"53 00 00 00 00 00 05", api.ErrWireBound}, {"53 00 00 00 00 00 01 81 02", api.ErrWireBound}, {"53 00 00 00 00 00 00 81 02", api.ErrWireBound},
		{"53 00 00 00 00 00", api.ErrWireShort}, {"53 00 00 00 00 00 00", api.ErrWireShort}, {"53 00 00 00 00 00 00 00 00", api.ErrWireMore}, {"53 00 00 00 00 00 02 00 00", api.ErrWireShort},
	} {
		k.refuses(t, "P4.10", hex(c.bytes), c.want)
	}
}

func TestManifests(t *testing.T) {
	k := kindNamed("Manifest")
	k.bothWays(t, "P4.11", api.Manifest{Id: 1, Sum: 0x01020304, Rows: []api.Row{{Size: 9, Check: 0xFF}}}, hex("4D 01 04 03 02 01 01 09 FF 00 00 00"))
	k.bothWays(t, "P4.11", api.Manifest{}, hex("4D 00 00 00 00 00 00"))
	k.bothWays(t, "P4.11", api.Manifest{Id: 9999, Rows: []api.Row{{Size: 65536}, {Check: 1}}}, hex("4D 8F 4E 00 00 00 00 02 80 80 04 00 00 00 00 00 01 00 00 00"))
	full := api.Manifest{Rows: slices.Repeat([]api.Row{{Size: 65536, Check: 0xFFFFFFFF}}, 12)}
	k.bothWays(t, "P4.11", full, k.lay(full))
	k.refuses(t, "P4.11", hex("4D 90 4E"), api.ErrWireBound)
	k.refuses(t, "P4.11", hex("4D 00 00 00 00 00 0D"), api.ErrWireBound)
	k.refuses(t, "P4.11", hex("4D 00 00 00 00 00 01 81 80 04 00 00 00 00"), api.ErrWireBound)
	k.refuses(t, "P4.11", hex("4D 00 00 00 00 00"), api.ErrWireShort)
	k.refuses(t, "P4.11", hex("4D 00 00 00 00 00 01"), api.ErrWireShort)
}

func TestRows(t *testing.T) {
	k := kindNamed("Row")
	k.bothWays(t, "P4.12", api.OutRow{At: 128, Rec: api.Record{Key: "a"}}, hex("4F 80 01 01 61 00 00"))
	k.bothWays(t, "P4.12", api.OutRow{}, hex("4F 00 00 00 00"))
	k.bothWays(t, "P4.12", api.OutRow{At: 1 << 30, Rec: api.Record{Val: num(1), Loops: []int{1, 2, 3}}}, hex("4F 80 80 80 80 04 00 01 02 03 01 02 03"))
	k.refuses(t, "P4.12", hex("4F 81 80 80 80 04 00 00 00"), api.ErrWireBound)
	k.refuses(t, "P4.12", hex("4F"), api.ErrWireShort)
	k.refuses(t, "P4.12", hex("4F 00"), api.ErrWireShort)
}

func TestTheFirstByteTellsTheForm(t *testing.T) {
	want := map[string]byte{"Segment": 83, "Manifest": 77, "Row": 79}
	for name, own := range want {
		k := kindNamed(name)
		good := k.lay(k.zero)
		if good[0] != own {
			t.Fatalf("the model writes %s with the byte %d", name, good[0])
		}
		k.bothWays(t, "P4.10 to P4.12", k.zero, good)
		k.refuses(t, "P4.10 to P4.12", nil, api.ErrWireShort)
		k.refuses(t, "P4.10 to P4.12", []byte{}, api.ErrWireShort)
		for x := range 256 {
			if byte(x) != own {
				k.refuses(t, "P4.10 to P4.12", []byte{byte(x)}, api.ErrWireForm)
				k.refuses(t, "P4.10 to P4.12", join([]byte{byte(x)}, good[1:]), api.ErrWireForm)
				k.refuses(t, "P4.10 to P4.12", []byte{byte(x), 0x80, 0x80, 0x80, 0x80, 0x80}, api.ErrWireForm)
			}
		}
	}
}

func TestEmptyListsAreNone(t *testing.T) {
	kindNamed("Record").reads(t, "P4.15", hex("00 00 00"), api.Record{Loops: []int{}})
	kindNamed("State").reads(t, "P4.15", hex("00 01 00 00"), api.State{Cells: []api.Cell{{Vals: []api.Value{}}}})
	kindNamed("State").reads(t, "P4.15", hex("00 00"), api.State{Cells: []api.Cell{}})
	kindNamed("Segment").reads(t, "P4.15", hex("53 00 00 00 00 00 00 00"), api.Segment{Logs: [][]api.Record{}, Pend: []api.Record{}})
	kindNamed("Segment").reads(t, "P4.15", hex("53 00 00 00 00 00 02 00 00 00"), api.Segment{Logs: [][]api.Record{{}, nil}})
	kindNamed("Manifest").reads(t, "P4.15", hex("4D 00 00 00 00 00 00"), api.Manifest{Rows: []api.Row{}})
	kindNamed("Record").writes(t, "P4.15", api.Record{Val: list(), Loops: []int{}}, hex("00 03 00 00"))
	kindNamed("Segment").writes(t, "P4.15", api.Segment{State: api.State{Cells: []api.Cell{}}, Delta: api.Delta{Set: []api.Cell{}, Gone: []string{}}, Logs: [][]api.Record{}, Pend: []api.Record{}}, hex("53 00 00 00 00 00 00 00"))
	kindNamed("Segment").writes(t, "P4.15", api.Segment{Base: 1, State: api.State{Cells: []api.Cell{}}, Delta: api.Delta{Set: []api.Cell{}, Gone: []string{}}}, hex("53 00 00 01 00 00 00 00 00 00 00 00 00"))
	kindNamed("Manifest").writes(t, "P4.15", api.Manifest{Rows: []api.Row{}}, hex("4D 00 00 00 00 00 00"))
}

// TestReadingFromTheLeft: of several errors the one whose bytes stand first.
func TestReadingFromTheLeft(t *testing.T) {
	for _, c := range []struct {
		kind, bytes string
		want        api.Errno
	}{
		{"Record", "0D 09 04 0A", api.ErrWireBound}, {"Record", "80 00 09 04", api.ErrWireForm}, {"Record", "00 09 04 0A", api.ErrValSyntax}, {"Record", "00 00 04 0A", api.ErrWireBound}, {"Record", "00 00 02 0A 80 00", api.ErrWireBound}, {"Record", "00 00 02 80 00 0A", api.ErrWireForm}, {"Record", "00 00 01 0A 00", api.ErrWireBound},
		{"State", "80 00 41", api.ErrWireForm}, {"State", "81 80 80 80 04 80 00", api.ErrWireBound}, {"State", "00 41 0D", api.ErrWireBound}, {"State", "00 02 00 07 00", api.ErrWireBound},
		{"Segment", "4D 90 4E", api.ErrWireForm}, {"Segment", "53 80 00 0C", api.ErrWireForm}, {"Segment", "53 00 0C 80 00", api.ErrWireBound}, {"Segment", "53 00 00 80 00 41", api.ErrWireForm},
		{"Segment", "53 00 00 00 00 02 00 00 00 05", api.ErrWireOrder}, {"Segment", "53 00 00 00 00 00 05 81 02", api.ErrWireBound}, {"Segment", "53 00 00 00 00 00 01 01 00 09 81 02", api.ErrValSyntax}, {"Segment", "53 00 00 00 00 00 00 01 00 00 04 00", api.ErrWireBound},
		{"Segment", "53 00 00 01 00 00 00 00 80 00 41", api.ErrWireForm}, {"Segment", "53 00 00 01 00 00 00 00 00 02 00 00 00 00 41", api.ErrWireOrder}, {"Segment", "53 00 00 01 00 00 00 00 00 00 41 05", api.ErrWireBound},
		{"Manifest", "53 90 4E", api.ErrWireForm}, {"Manifest", "4D 80 00 00", api.ErrWireForm}, {"Manifest", "4D 90 4E 00", api.ErrWireBound}, {"Manifest", "4D 00 00 00 00", api.ErrWireShort}, {"Manifest", "4D 00 00 00 00 00 01 80 00", api.ErrWireForm},
		{"Row", "53 81 80 80 80 04", api.ErrWireForm}, {"Row", "4F 81 80 80 80 04 0D", api.ErrWireBound}, {"Row", "4F 80 00 0D", api.ErrWireForm}, {"Row", "4F 00 0D 09", api.ErrWireBound}, {"Row", "4F 00 00 00 00 00", api.ErrWireMore},
	} {
		kindNamed(c.kind).refuses(t, "P4.14", hex(c.bytes), c.want)
	}
}
