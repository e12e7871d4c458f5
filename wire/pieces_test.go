package wire_test

import (
	"testing"

	"eddy/api"
)

// A place is a number within a form: the bytes ahead of it, its bound, and what must follow the number at its bound.
type place struct {
	what   string
	kind   string
	ahead  string
	bound  int
	behind []byte
}

// places gives every number that a form has.
func places() []place {
	key13 := []byte("0123456789abc")
	record := hex("00 00 00")
	cell := func(n int) []byte {
		var b []byte
		for _, key := range keys(n) {
			b = append(b, join(layKey(key), []byte{0})...)
		}
		return b
	}
	gone := layAll(keys(64), layKey)[1:]
	return []place{
		{"the length of a record's key", "Record", "", 12, join(key13[:12], hex("00 00"))},
		{"the number of loops", "Record", "00 00", 3, hex("00 00 00")},
		{"a loop", "Record", "00 00 01", 9, nil},
		{"the last loop", "Record", "00 00 03 00 00", 9, nil},
		{"a state's Num", "State", "", 1 << 30, hex("00")},
		{"the number of cells", "State", "00", 64, cell(64)},
		{"the length of a cell's key", "State", "00 01", 12, join(key13[:12], hex("00"))},
		{"the number of a cell's values", "State", "00 01 00", 6, hex("00 00 00 00 00 00")},
		{"a segment's Id", "Segment", "53", 9999, hex("00 00 00 00 00 00")},
		{"Task", "Segment", "53 01", 11, hex("00 00 00 00 00")},
		{"Base", "Segment", "53 01 00", 9999, hex("00 00 00 00 00 00 00 00 00")},
		{"the Num of a segment's state", "Segment", "53 01 00 00", 1 << 30, hex("00 00 00")},
		{"the number of cells of a segment's state", "Segment", "53 01 00 00 00", 64, join(cell(64), hex("00 00"))},
		{"the number of logs", "Segment", "53 01 00 00 00 00", 4, hex("00 00 00 00 00")},
		{"the number of a log's records", "Segment", "53 01 00 00 00 00 01", 256, join(times(256, record), hex("00"))},
		{"the number of the last log's records", "Segment", "53 01 00 00 00 00 04 00 00 00", 256, join(times(256, record), hex("00"))},
		{"the number of pending records", "Segment", "53 01 00 00 00 00 00", 256, times(256, record)},
		{"a delta's Num", "Segment", "53 01 00 01 00 00 00 00", 1 << 30, hex("00 00 00 00")},
		{"the number of cells in Set", "Segment", "53 01 00 01 00 00 00 00 00", 64, join(cell(64), hex("00 00 00"))},
		{"the number of values of a cell in Set", "Segment", "53 01 00 01 00 00 00 00 00 01 00", 6, hex("00 00 00 00 00 00 00 00 00")},
		{"the number of keys in Gone", "Segment", "53 01 00 01 00 00 00 00 00 00", 64, join(gone, hex("00 00"))},
		{"the length of a key in Gone", "Segment", "53 01 00 01 00 00 00 00 00 00 01", 12, join(key13[:12], hex("00 00"))},
		{"a manifest's Id", "Manifest", "4D", 9999, hex("00 00 00 00 00")},
		{"the number of rows", "Manifest", "4D 01 00 00 00 00", 12, times(12, hex("00 00 00 00 00"))},
		{"Size", "Manifest", "4D 01 00 00 00 00 01", 65536, hex("00 00 00 00")},
		{"At", "Row", "4F", 1 << 30, record},
	}
}

func TestNumbersAtTheirBounds(t *testing.T) {
	for _, p := range places() {
		k, ahead := kindNamed(p.kind), hex(p.ahead)
		at := join(ahead, layNumber(p.bound), p.behind)
		if got, e := k.get(at); e != api.OK || string(k.lay(got)) != string(at) {
			t.Errorf("P4.1: Get%s with %s at its bound %d answers error %d, %s", p.kind, p.what, p.bound, e, shown(got))
		} else {
			k.writes(t, "P4.16", got, at)
		}
		for _, above := range []int{p.bound + 1, 1 << 31, 1<<32 + 1, 1 << 34, 1<<35 - 1} {
			k.refuses(t, "P4.1: "+p.what, join(ahead, layNumber(above), p.behind), api.ErrWireBound)
			k.refuses(t, "P4.1: "+p.what, join(ahead, layNumber(above)), api.ErrWireBound)
		}
	}
}

func TestBytesThatAreNoNumber(t *testing.T) {
	for _, p := range places() {
		k, ahead := kindNamed(p.kind), hex(p.ahead)
		for _, c := range []struct {
			bytes string
			want  api.Errno
		}{
			{"", api.ErrWireShort},
			{"80", api.ErrWireShort}, {"FF", api.ErrWireShort}, {"81 80", api.ErrWireShort}, {"80 80 80", api.ErrWireShort}, {"FF FF FF FF", api.ErrWireShort},
			{"80 80 80 80 80", api.ErrWireForm}, {"FF FF FF FF FF", api.ErrWireForm}, {"80 80 80 80 80 00", api.ErrWireForm}, {"80 80 80 80 80 80 01", api.ErrWireForm},
			{"80 00", api.ErrWireForm}, {"81 00", api.ErrWireForm}, {"FF 00", api.ErrWireForm}, {"81 80 00", api.ErrWireForm}, {"80 80 80 00", api.ErrWireForm}, {"80 80 80 80 00", api.ErrWireForm}, {"FF FF FF FF 00", api.ErrWireForm},
			{"FF FF FF FF 04", api.ErrWireBound}, {"80 80 80 80 10", api.ErrWireBound}, {"FF FF FF FF 7F", api.ErrWireBound},
		} {
			k.refuses(t, "P4.1: "+p.what, join(ahead, hex(c.bytes)), c.want)
			if c.want != api.ErrWireShort {
				k.refuses(t, "P4.1: "+p.what, join(ahead, hex(c.bytes), p.behind), c.want)
			}
		}
	}
}

func TestNumbersOfOneToFiveBytes(t *testing.T) {
	k := kindNamed("State")
	for _, c := range []struct {
		n     int
		bytes string
	}{
		{0, "00"}, {1, "01"}, {127, "7F"}, {128, "80 01"}, {300, "AC 02"}, {16383, "FF 7F"}, {16384, "80 80 01"}, {1<<21 - 1, "FF FF 7F"}, {1 << 21, "80 80 80 01"},
		{1<<28 - 1, "FF FF FF 7F"}, {1 << 28, "80 80 80 80 01"}, {1<<30 - 1, "FF FF FF FF 03"}, {1 << 30, "80 80 80 80 04"},
	} {
		k.bothWays(t, "P4.1", api.State{Num: c.n}, join(hex(c.bytes), []byte{0}))
	}
	k.refuses(t, "P4.1", hex("81 80 80 80 04 00"), api.ErrWireBound)
}

func TestWords(t *testing.T) {
	for _, c := range []struct {
		word  uint32
		bytes string
	}{
		{0, "00 00 00 00"}, {1, "01 00 00 00"}, {0x01020304, "04 03 02 01"}, {0xFFFFFFFF, "FF FF FF FF"}, {0x80000000, "00 00 00 80"}, {0x00FF0080, "80 00 FF 00"},
	} {
		kindNamed("Manifest").bothWays(t, "P4.2", api.Manifest{Sum: c.word}, join(hex("4D 00"), hex(c.bytes), hex("00")))
		kindNamed("Manifest").bothWays(t, "P4.2", api.Manifest{Rows: []api.Row{{Check: c.word}}}, join(hex("4D 00 00 00 00 00 01 00"), hex(c.bytes)))
		kindNamed("Segment").bothWays(t, "P4.2", api.Segment{Base: 1, BaseSum: c.word}, join(hex("53 00 00 01"), hex(c.bytes), hex("00 00 00 00 00")))
	}
	for missing := 1; missing <= 4; missing++ {
		word := hex("01 02 03 84")[:4-missing]
		kindNamed("Manifest").refuses(t, "P4.2", join(hex("4D 00"), word), api.ErrWireShort)
		kindNamed("Manifest").refuses(t, "P4.2", join(hex("4D 00 00 00 00 00 01 00"), word), api.ErrWireShort)
		kindNamed("Segment").refuses(t, "P4.2", join(hex("53 00 00 01"), word), api.ErrWireShort)
	}
}

func TestKeys(t *testing.T) {
	for _, key := range []string{"", "a", long(12), "\x00\xff\x80", "ä", "\"\n"} {
		length := []byte{byte(len(key))}
		kindNamed("Record").bothWays(t, "P4.3", api.Record{Key: key}, join(length, []byte(key), hex("00 00")))
		kindNamed("State").bothWays(t, "P4.3", api.State{Cells: []api.Cell{{Key: key}}}, join(hex("00 01"), length, []byte(key), hex("00")))
		kindNamed("Segment").bothWays(t, "P4.3", api.Segment{Base: 1, Delta: api.Delta{Gone: []string{key}}}, join(hex("53 00 00 01 00 00 00 00 00 00 01"), length, []byte(key), hex("00 00")))
	}
	for name, ahead := range map[string]string{"Record": "", "State": "00 01", "Segment": "53 00 00 01 00 00 00 00 00 00 01"} {
		for n := 1; n <= 12; n++ {
			for there := range n {
				kindNamed(name).refuses(t, "P4.3", join(hex(ahead), []byte{byte(n)}, []byte(long(there))), api.ErrWireShort)
			}
		}
		kindNamed(name).refuses(t, "P4.3", join(hex(ahead), hex("0D"), []byte(long(13)), make([]byte, 20)), api.ErrWireBound)
	}
}

func TestValuesWithinForms(t *testing.T) {
	deep, wide := list(list(list(num(1)))), list(none, num(-1), text("a\"é"), list(), num(1<<62), text(long(24)))
	for _, v := range []api.Value{none, num(5), num(-1 << 63), text(""), text("a"), deep, wide} {
		b := kindNamed("Record").lay(api.Record{Val: v})
		kindNamed("Record").bothWays(t, "P4.4", api.Record{Val: v}, b)
		kindNamed("State").bothWays(t, "P4.4", api.State{Cells: []api.Cell{{Vals: []api.Value{v, none, v}}}}, kindNamed("State").lay(api.State{Cells: []api.Cell{{Vals: []api.Value{v, none, v}}}}))
	}
	kindNamed("Record").writes(t, "P4.4", api.Record{Val: list(num(-1), text("a\"é"), none)}, hex("00 03 03 01 01 02 04 61 22 C3 A9 00 00"))
	for _, c := range []struct {
		bytes string
		want  api.Errno
	}{
		{"", api.ErrValSyntax}, {"01", api.ErrValSyntax}, {"01 80", api.ErrValSyntax}, {"01 80 00", api.ErrValSyntax}, {"02 02 61", api.ErrValSyntax}, {"03 02 00", api.ErrValSyntax}, {"04", api.ErrValSyntax}, {"FF", api.ErrValSyntax},
		{"02 19", api.ErrValText}, {"03 07", api.ErrValItems}, {"03 01 03 01 03 01 03", api.ErrValDepth}, {"03 02 03 05 00 00 00 00 00 03 05 00 00 00 00 00", api.ErrValItems},
	} {
		kindNamed("Record").refuses(t, "P4.4", join(hex("01 61"), hex(c.bytes)), c.want)
		kindNamed("State").refuses(t, "P4.4", join(hex("00 01 01 61 06"), hex(c.bytes)), c.want)
		kindNamed("Segment").refuses(t, "P4.4", join(hex("53 00 00 00 00 00 01 01 01 61"), hex(c.bytes)), c.want)
		kindNamed("Row").refuses(t, "P4.4", join(hex("4F 00 00"), hex(c.bytes)), c.want)
	}
}

// TestValuesAreReadFromAllThatIsLeft: a text that claims bytes of what stands behind it takes them, and the form ends too early.
func TestValuesAreReadFromAllThatIsLeft(t *testing.T) {
	kindNamed("Record").reads(t, "P4.4", hex("00 02 03 00 00 00 00"), api.Record{Val: text("\x00\x00\x00")})
	kindNamed("Record").refuses(t, "P4.4", hex("00 02 04 00 00 00 00"), api.ErrWireShort)
	kindNamed("Record").refuses(t, "P4.4", hex("00 02 05 00 00 00 00"), api.ErrValSyntax)
}

func TestAnItemIsReadWhollyAheadOfTheNext(t *testing.T) {
	state := kindNamed("State")
	state.refuses(t, "P4.5", hex("00 02 01 62 07 01 61"), api.ErrWireBound)
	state.refuses(t, "P4.5", hex("00 02 01 62 01 09 01 61"), api.ErrValSyntax)
	state.refuses(t, "P4.5", hex("00 02 01 62 00 01 61 07"), api.ErrWireOrder)
	state.refuses(t, "P4.5", hex("00 40"), api.ErrWireShort)
	segment := kindNamed("Segment")
	segment.refuses(t, "P4.5", hex("53 00 00 00 00 00 02 01 00 00 04"), api.ErrWireBound)
	segment.refuses(t, "P4.5", hex("53 00 00 00 00 00 02 01 00 09 00 05"), api.ErrValSyntax)
	manifest := kindNamed("Manifest")
	manifest.refuses(t, "P4.5", hex("4D 00 00 00 00 00 02 81 80 04"), api.ErrWireBound)
	manifest.refuses(t, "P4.5", hex("4D 00 00 00 00 00 02 00 01 02 03"), api.ErrWireShort)
}
