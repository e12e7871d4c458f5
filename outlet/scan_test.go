package outlet_test

import (
	"encoding/binary"
	"fmt"
	"slices"
	"testing"

	"eddy/api"
	"eddy/equal"
	"eddy/outlet"
	"eddy/pen"
)

// scans fails the test where Scan doesn't find just these records, whose frames are the first bytes of data, or where Open finds something else or leaves something else in the file.
func scans(t *testing.T, what string, data []byte, want string) {
	t.Helper()
	size := len(logOf(0, recs(want)))
	if l, n := outlet.Scan(data); recsTold(l) != want || n != size {
		t.Errorf("P15.1: Scan of %s answers %s, %d, want %s, %d", what, recsTold(l), n, want, size)
	}
	for _, sure := range []int{0, size / 2, len(data)} {
		d := newDisk(t, []api.File{{Name: "out-07", Data: data, Synced: sure}})
		o := opened(t, d, 7)
		if got := recsTold(o.Records()); got != want || o.Len() != len(want) {
			t.Errorf("P15.2: Open over %s finds %s, want %s", what, got, want)
		}
		if f := fileOf(d, 7); string(f.Data) != string(data[:size]) || f.Synced != size {
			t.Errorf("P15.2: Open over %s leaves %s", what, filesTold(d.Files()))
		}
	}
}

func TestScan(t *testing.T) {
	abc, def := logBytes("abc"), logOf(3, recs("def"))
	row := rowOf(3, rec('d'))
	scans(t, "no bytes", nil, "")
	scans(t, "a log", abc, "abc")
	scans(t, "a log of empty records", logBytes("---"), "---")
	scans(t, "a log in two pieces", slices.Concat(abc, def), "abcdef")
	for _, c := range []struct {
		what string
		next []byte
	}{
		{"another number, one more", frameOf(rowOf(4, rec('d')))}, {"another number, one less", frameOf(rowOf(2, rec('d')))},
		{"the last row again", frameOf(rowOf(2, rec('c')))}, {"number 0 again", frameOf(rowOf(0, rec('a')))}, {"a great number", frameOf(rowOf(api.MaxNum, rec('d')))},
		{"a number above MaxNum", frameOf(rowOf(api.MaxNum+1, rec('d')))}, {"a number beyond 32 bits", frameOf(rowOf(1<<32+3, rec('d')))},
		{"a number with a group too many", frameOf(slices.Concat([]byte{79, 0x83, 0}, row[2:]))},
		{"an empty body", frameOf(nil)}, {"a body of one byte", frameOf(row[:1])}, {"a row without its last byte", frameOf(row[:len(row)-1])}, {"a row and a byte", frameOf(append(slices.Clone(row), 0))},
		{"another first byte", frameOf(slices.Concat([]byte{83}, row[1:]))}, {"no row", frameOf([]byte("no row"))},
		{"a key that is too long", frameOf(slices.Concat([]byte{79, 3, 13}, []byte("thirteenbytes"), []byte{0, 0}))}, {"a counter above MaxHops", frameOf([]byte{79, 3, 0, 0, 1, 10})},
		{"a value that is none", frameOf([]byte{79, 3, 0, 9, 0})}, {"zeros", make([]byte, 100)}, {"ones", slices.Repeat([]byte{255}, 100)}, {"one byte", []byte{5}},
		{"the greatest frame", frameOf(make([]byte, api.MaxBody))}, {"a head alone", []byte{0, 0, 255, 255}}, {"a length above MaxBody", []byte{1, 128, 254, 127}},
		{"a frame without its last byte", frameOf(row)[:len(row)+7]}, {"a byte ahead of a frame", append([]byte{0}, frameOf(row)...)},
	} {
		// What stands behind isn't looked for: neither the row that is missing nor the next ones.
		for _, behind := range [][]byte{nil, logOf(3, recs("d")), logOf(4, recs("ef")), {1, 2, 3}} {
			scans(t, c.what, slices.Concat(abc, c.next, behind), "abc")
		}
		if c.what != "number 0 again" {
			scans(t, c.what+", ahead of a log", slices.Concat(c.next, abc), "")
		}
	}
	// The number alone keeps these from being read.
	scans(t, "number 0 twice", slices.Concat(logBytes("a"), logBytes("a")), "a")
	scans(t, "number 1 first", logOf(1, recs("bcd")), "")
}

// TestEveryBit: a bit that is turned ends the reading at its frame, wherever it is.
func TestEveryBit(t *testing.T) {
	whole := "ab-cd"
	log := logBytes(whole)
	for bit := range 8 * len(log) {
		data := slices.Clone(log)
		data[bit/8] ^= 1 << (bit % 8)
		ahead := 0
		for len(logBytes(whole[:ahead+1])) <= bit/8 {
			ahead++
		}
		scans(t, fmt.Sprint("a log with bit ", bit, " turned"), data, whole[:ahead])
	}
}

// TestEveryCut: of drawn logs, the records whose frames lie wholly ahead of the cut.
func TestEveryCut(t *testing.T) {
	for seed := range 60 {
		p := pen.Seeded(seed)
		l := p.Records(p.Between(1, 12), api.MaxLoops)
		log := logOf(0, l)
		count, size := 0, 0
		for cut := range len(log) + 1 {
			if end := len(logOf(0, l[:min(count+1, len(l))])); count < len(l) && end == cut {
				count, size = count+1, cut
			}
			if got, n := outlet.Scan(log[:cut]); n != size || !equal.Records(got, l[:count]) {
				t.Fatalf("P15.7: seed %d: Scan of a log cut at byte %d answers %d records, %d bytes, want %d and %d", seed, cut, len(got), n, count, size)
			}
			if got, n := outlet.Scan(log[:cut:cut]); n != size || len(got) != count {
				t.Fatalf("P15.7: seed %d: Scan of a log cut at byte %d, without room behind it, answers %d records, %d bytes", seed, cut, len(got), n)
			}
		}
		if count != len(l) {
			t.Fatalf("only %d of %d records were reached", count, len(l))
		}
	}
}

// mangled changes a log in some way: bytes, or whole frames.
func mangled(p *pen.Pen, l []api.Record) ([]byte, string) {
	log := logOf(0, l)
	at := p.Below(len(log))
	switch p.Below(8) {
	case 0:
		log[at] ^= 1 << p.Below(8)
		return log, "a bit"
	case 1:
		return slices.Delete(log, at, min(len(log), at+p.Between(1, 9))), "bytes gone"
	case 2:
		return slices.Insert(log, at, log[p.Below(at+1):at+1]...), "bytes twice"
	case 3:
		from := p.Below(len(l))
		return slices.Concat(logOf(0, l[:from]), logOf(from+p.Between(-1, 2), l[from:])), "other numbers"
	case 4:
		return slices.Concat(log, log), "the log twice"
	case 5:
		from := p.Below(len(l))
		return slices.Concat(logOf(0, l[:from]), frameOf(binary.AppendUvarint([]byte{byte(p.Between(78, 80))}, uint64(p.Below(20)))), logOf(from, l[from:])), "a frame between"
	case 6:
		for range p.Between(1, 5) {
			log[p.Below(len(log))] = byte(p.Below(256))
		}
		return log, "any bytes"
	}
	return log[:at], "a cut"
}

// TestMangledLogs: against the model; and what Scan finds is found in so many bytes too, and ahead of anything that is no next row.
func TestMangledLogs(t *testing.T) {
	met := map[string]int{}
	for seed := range 6000 {
		p := pen.Seeded(seed)
		l := p.Records(p.Between(1, 6), api.MaxLoops)
		data, how := mangled(p, l)
		got, n := outlet.Scan(data)
		want, size := modelScan(data)
		if n != size || !equal.Records(got, want) {
			t.Fatalf("P15.1: seed %d, %s: Scan answers %d records, %d bytes, want %d and %d", seed, how, len(got), n, len(want), size)
		}
		again, k := outlet.Scan(data[:n])
		if k != n || !equal.Records(again, got) || string(logOf(0, got)) != string(data[:n]) {
			t.Fatalf("P15.7: seed %d, %s: Scan of the first %d bytes answers %d records, %d bytes, want %d", seed, how, n, len(again), k, len(got))
		}
		if len(got) > 0 && n < len(data) {
			met[how]++
		}
	}
	for _, how := range []string{"a bit", "bytes gone", "bytes twice", "other numbers", "the log twice", "a frame between", "any bytes", "a cut"} {
		if met[how] < 100 {
			t.Errorf("%s in the middle of a log: drawn %d times", how, met[how])
		}
	}
}

// TestAnyBytes: of all short rows of some bytes, and of long drawn ones.
func TestAnyBytes(t *testing.T) {
	for data := range pen.Rows([]byte{0, 1, 79, 254, 255}, 6) {
		if l, n := outlet.Scan(data); len(l) != 0 || n != 0 {
			t.Fatalf("P15.1: Scan of %x answers %d records, %d", data, len(l), n)
		}
	}
	for seed := range 200 {
		p := pen.Seeded(seed)
		data := make([]byte, p.Below(5000))
		for k := range data {
			data[k] = byte(pen.One(p, 0, 79, 255, p.Below(256)))
		}
		if l, n := outlet.Scan(data); len(l) != 0 || n != 0 {
			t.Fatalf("P15.1: Scan of any bytes answers %d records, %d", len(l), n)
		}
	}
}

// TestLongLogs: numbers of one, two and three bytes, beyond what a file holds.
func TestLongLogs(t *testing.T) {
	for _, count := range []int{127, 128, 129, 5000, 16383, 16384, 16385, 40000} {
		l := slices.Repeat([]api.Record{rec('-')}, count)
		l[count-1] = rec('z')
		log := logOf(0, l)
		if got, n := outlet.Scan(log); n != len(log) || len(got) != count || !equal.Record(got[count-1], rec('z')) {
			t.Errorf("P15.1: Scan of a log of %d records answers %d, %d of %d bytes", count, len(got), n, len(log))
		}
		if got, _ := outlet.Scan(log[:len(log)-1]); len(got) != count-1 {
			t.Errorf("P15.7: Scan of a log of %d records without its last byte answers %d", count, len(got))
		}
	}
}
