package outlet_test

import (
	"fmt"
	"math"
	"slices"
	"strings"
	"testing"

	"eddy/api"
	"eddy/equal"
)

// TestFrom: each number from below 0 to behind the end, with records and with none, over logs of each length.
func TestFrom(t *testing.T) {
	whole := "abcdefgh"
	for stand := range 4 {
		for _, from := range []int{math.MinInt, -2, -1, 0, 1, 2, 3, 4, 5, 1 << 32, math.MaxInt} {
			for count := range 5 {
				d := newDisk(t, filesOf("out-03: "+whole[:stand]))
				o := opened(t, d, 3)
				var l []api.Record
				wants, want := "gap out-03", whole[:stand]
				if from >= 0 && from <= stand {
					l = recs(whole[from : from+count])
					wants, want = "ok", whole[:max(stand, from+count)]
				} else {
					l = recs(whole[:count])
				}
				if got := errorTold(o.Commit(from, l)); got != wants || recsTold(o.Records()) != want || o.Len() != len(want) || logTold(fileOf(d, 3).Data) != want {
					t.Errorf("P15.4: %d stand, Commit(%d) of %d records answers %s; the records are %s, the file is %s, want %s", stand, from, count, got, recsTold(o.Records()), filesTold(d.Files()), want)
				}
			}
		}
	}
}

// TestOrderOfTheErrors: each one ahead of the next, and none of the first ones asks the disk.
func TestOrderOfTheErrors(t *testing.T) {
	log := "out-03: abc"
	for _, commit := range []string{"3 -1 K = gap", "3 -1 abc = gap", "3 4 = gap", "3 4 K = gap", "3 4 d = gap", "3 -1 = gap",
		"3 0 b = clash", "3 0 bK = clash", "3 0 K = clash", "3 0 aKc = clash", "3 1 c = clash", "3 2 aK = clash", "3 0 abx = clash", "3 0 abxd = clash", "3 0 abxK = clash", "3 2 - = clash",
		"3 3 K = error 24", "3 3 dK = error 24", "3 3 dKT = error 24", "3 3 TK = error 21", "3 0 abcK = error 24", "3 1 bcdefghZ = error 20", "3 2 cI = error 22", "3 3 D = error 23", "3 3 defL = error 25"} {
		plays(t, "P15.4", log, "open 3", "fail 0 1", "commit "+commit+" out-03", "probe = io", "files = "+log, "len 3 = 3", "records 3 = abc",
			// Nothing of it stands.
			"commit 3 3 y = ok", "records 3 = abcy")
		plays(t, "P15.4", log, "open 3", "arm 0", "commit "+commit+" out-03", "lay x +1 = down")
	}
	for letter, e := range wrongs {
		for _, l := range []string{"%c", "a%c", "%ca", "ab%cc"} {
			l = fmt.Sprintf(l, letter)
			plays(t, "P15.4.2", "", "open 3", fmt.Sprintf("commit 3 0 %s = error %d out-03", l, e), "files =", "len 3 = 0", "commit 3 0 = ok", "files =")
		}
	}
}

// TestAnotherRecord: two records are the same if they are so field by field, whether they are valid or not.
func TestAnotherRecord(t *testing.T) {
	list := func(items ...api.Value) api.Value { return api.Value{Kind: api.List, Items: items} }
	num := func(n int64) api.Value { return api.Value{Kind: api.Int, Int: n} }
	text := func(s string) api.Value { return api.Value{Kind: api.Text, Text: s} }
	all := []api.Record{
		{}, {Key: "a"}, {Key: "b"}, {Key: "a", Loops: []int{0}}, {Key: "a", Loops: []int{1}}, {Key: "a", Loops: []int{0, 0}}, {Key: "a", Loops: []int{0, 1}},
		{Key: "a", Val: num(0)}, {Key: "a", Val: num(1)}, {Key: "a", Val: num(-1)}, {Key: "a", Val: text("")}, {Key: "a", Val: text("b")}, {Key: "a", Val: list()},
		{Key: "a", Val: list(api.Value{})}, {Key: "a", Val: list(num(0))}, {Key: "a", Val: list(num(0), num(0))}, {Key: "a", Val: list(text("a"), num(0))}, {Key: "a", Val: list(list())}, {Key: "a", Val: list(list(num(0)))},
	}
	valid := len(all)
	// These aren't valid, but would be written as some of those above.
	all = append(all,
		api.Record{Key: "a", Val: api.Value{Int: 1}}, api.Record{Key: "a", Val: api.Value{Text: "b"}}, api.Record{Key: "a", Val: api.Value{Items: []api.Value{{}}}},
		api.Record{Key: "a", Val: api.Value{Kind: api.Int, Text: "b"}}, api.Record{Key: "a", Val: api.Value{Kind: api.Int, Items: []api.Value{{}}}},
		api.Record{Key: "a", Val: api.Value{Kind: api.Text, Int: 1}}, api.Record{Key: "a", Val: api.Value{Kind: api.Text, Text: "b", Items: []api.Value{{}}}},
		api.Record{Key: "a", Val: api.Value{Kind: api.List, Int: 1}}, api.Record{Key: "a", Val: api.Value{Kind: api.List, Text: "b"}},
		api.Record{Key: "a", Val: list(api.Value{Int: 5})}, api.Record{Key: "a", Val: list(api.Value{Kind: api.Int, Text: "x"})})
	for n, one := range all[:valid] {
		d := newDisk(t, nil)
		o := opened(t, d, 0)
		if err := o.Commit(0, []api.Record{rec('x'), one, rec('y')}); err != nil {
			t.Fatalf("P15.4: Commit of %+v: %v", one, err)
		}
		for k, other := range all {
			want := "ok"
			if k != n {
				want = "clash out-00"
			}
			if got := errorTold(o.Commit(1, []api.Record{other})); got != want {
				t.Errorf("P15.4.2: Commit of %+v where %+v stands answers %s, want %s", other, one, got, want)
			}
			if got := errorTold(opened(t, d, 0).Commit(0, []api.Record{rec('x'), other})); got != want {
				t.Errorf("P15.4.2: Commit of %+v where %+v was found answers %s, want %s", other, one, got, want)
			}
		}
		if l := o.Records(); len(l) != 3 || !equal.Record(l[1], one) {
			t.Errorf("P15.3: the records are %s", recsTold(l))
		}
	}
}

// TestOnlyWhatIsNewIsAppended: in one Append, with one Sync behind it.
func TestOnlyWhatIsNewIsAppended(t *testing.T) {
	whole := "abcdefghij"
	for stand := range len(whole) + 1 {
		for from := range stand + 1 {
			for end := from; end <= len(whole); end++ {
				c := fmt.Sprintf("commit 3 %d %s = ok", from, whole[from:end])
				log, want := "out-03: "+whole[:stand], "files = out-03: "+whole[:max(stand, end)]
				if stand == 0 {
					log = ""
				}
				calls, units := 2, 2+len(logOf(0, recs(whole[:max(stand, end)])))-len(logOf(0, recs(whole[:stand])))
				if end <= stand {
					calls, units, want = 0, 0, strings.TrimSpace("files = "+log)
				}
				plays(t, "P15.4", log, "open 3", fmt.Sprintf("fail %d 1", calls), c, "probe = io", "probe = error 103", want)
				plays(t, "P15.4", log, "open 3", fmt.Sprintf("arm %d", units), c, want, "lay x +1 = down")
			}
		}
	}
}

// TestNothingNew: a Commit of nothing new, where all is sure, makes no call of the disk.
func TestNothingNew(t *testing.T) {
	for _, c := range []string{"commit 3 0", "commit 3 1", "commit 3 3", "commit 3 0 a", "commit 3 0 abc", "commit 3 1 b", "commit 3 2 c", "commit 3 1 bc"} {
		plays(t, "P15.4", "out-03: abc", "open 3", "fail 0 1", c+" = ok", "probe = io", "files = out-03: abc", "records 3 = abc")
		plays(t, "P15.4", "out-03: abc", "open 3", "arm 0", c+" = ok", c+" = ok", "lay x +1 = down")
		// Behind the outlet's back the file may be gone: it doesn't look.
		plays(t, "P15, Words", "out-03: abc", "open 3", "remove out-03", c+" = ok", "files =", "len 3 = 3", "records 3 = abc")
	}
	plays(t, "P15.4", "", "open 3", "fail 0 1", "commit 3 0 = ok", "commit 3 0 = ok", "probe = io", "files =", "len 3 = 0")
	plays(t, "P15.4", "out-03:", "open 3", "fail 0 1", "commit 3 0 = ok", "probe = io", "files = out-03:")
}

// TestAFailedAppend: nothing stands that didn't, whatever the Append failed of.
func TestAFailedAppend(t *testing.T) {
	plays(t, "P15.4.3", "", "open 3", "fail 0 1", "commit 3 0 ab = io out-03", "files =", "len 3 = 0", "commit 3 1 b = gap out-03", "commit 3 0 = ok", "files =", "commit 3 0 x = ok", "files = out-03: x")
	plays(t, "P15.4.3", "out-03: abc", "open 3", "fail 0 2", "commit 3 2 cd = io out-03", "commit 3 3 de = io out-03", "len 3 = 3", "commit 3 4 = gap out-03", "files = out-03: abc", "commit 3 3 e = ok", "records 3 = abce", "files = out-03: abce")
	// The call behind a failed Append isn't made.
	plays(t, "P15.4.3", "", "open 3", "fail 0 2", "commit 3 0 a = io out-03", "probe = io", "probe = error 103")
	// A fall, with each number of bytes that are paid for.
	for units := range len(logBytes("ab")) + 1 {
		plays(t, "P15.4.3", "out-03: x", "open 3", fmt.Sprintf("arm %d", units), "commit 3 1 ab = down out-03", "commit 3 1 ab = down out-03", "commit 3 1 c = down out-03")
	}
}

// TestAFailedSync: what was appended stands, but isn't sure till a later Commit makes it so.
func TestAFailedSync(t *testing.T) {
	lead := []string{"open 3", "fail 1 1", "commit 3 1 bc = io out-03", "files = out-03: abc of a", "len 3 = 1", "records 3 = a"}
	behind := func(lines ...string) {
		t.Helper()
		plays(t, "P15.4.4", "out-03: a", slices.Concat(lead, lines)...)
	}
	for _, c := range []string{"commit 3 0", "commit 3 1", "commit 3 2", "commit 3 3", "commit 3 0 a", "commit 3 0 abc", "commit 3 1 b", "commit 3 2 c"} {
		// One Sync alone, and then nothing any more.
		behind("fail 1 1", c+" = ok", "probe = io", "files = out-03: abc", "len 3 = 3", "records 3 = abc")
		behind(c+" = ok", "fail 0 1", c+" = ok", "probe = io")
		behind("arm 1", c+" = ok", "lay x +1 = down")
		// That one may fail too.
		behind("fail 0 1", c+" = io out-03", "len 3 = 1", "records 3 = a", "files = out-03: abc of a", c+" = ok", "len 3 = 3")
		behind("arm 0", c+" = down out-03", "files = out-03: abc of a")
	}
	// New ones come behind them: one Append and one Sync for all.
	behind("fail 2 1", "commit 3 3 de = ok", "probe = io", "files = out-03: abcde", "records 3 = abcde")
	behind("fail 2 1", "commit 3 1 bcd = ok", "probe = io", "files = out-03: abcd", "records 3 = abcd")
	behind("fail 1 1", "commit 3 3 de = io out-03", "files = out-03: abcde of a", "records 3 = a", "commit 3 0 abcdef = ok", "files = out-03: abcdef", "records 3 = abcdef")
	// A Commit that doesn't come so far leaves them as they are.
	for _, c := range []string{"commit 3 4 = gap", "commit 3 -1 = gap", "commit 3 1 x = clash", "commit 3 2 b = clash", "commit 3 0 abx = clash", "commit 3 3 K = error 24", "commit 3 1 bcdT = error 21"} {
		behind("fail 0 1", c+" out-03", "probe = io", "files = out-03: abc of a", "len 3 = 1", "commit 3 0 = ok", "len 3 = 3")
	}
	behind("fail 0 1", "commit 3 3 d = io out-03", "files = out-03: abc of a", "len 3 = 1", "commit 3 4 = gap out-03", "commit 3 3 x = ok", "records 3 = abcx", "files = out-03: abcx")
	behind("fail 0 2", "commit 3 1 bcd = io out-03", "probe = io", "files = out-03: abc of a")
	// Behind the outlet's back the file is gone.
	behind("remove out-03", "commit 3 0 = error 103 out-03", "len 3 = 1")
	// Another Open finds what stands, and makes it sure.
	behind("open 3 5 = ok", "records 5 = abc", "files = out-03: abc", "records 3 = a", "commit 3 0 = ok", "records 3 = abc")
}

// TestSureOnesAlone: Len and Records at each moment of a log that grows while Syncs fail.
func TestSureOnesAlone(t *testing.T) {
	plays(t, "P15.3", "", "open 3", "len 3 = 0", "records 3 =", "commit 3 0 a = ok", "len 3 = 1", "records 3 = a", "fail 1 1", "commit 3 1 b = io out-03", "len 3 = 1", "records 3 = a",
		"fail 1 1", "commit 3 2 c = io out-03", "len 3 = 1", "records 3 = a", "commit 3 2 cd = ok", "len 3 = 4", "records 3 = abcd", "fail 1 1", "commit 3 4 - = io out-03", "len 3 = 4", "records 3 = abcd", "len 3 = 4", "commit 3 5 = ok", "len 3 = 5", "records 3 = abcd-")
}

// counted gives so many files that aren't outlets'.
func counted(count int) []api.File {
	var all []api.File
	for k := range count {
		all = append(all, api.File{Name: fmt.Sprintf("f%d", k)})
	}
	return all
}

// TestADiskWithoutRoom: for another file, or for more bytes in a file.
func TestADiskWithoutRoom(t *testing.T) {
	d := newDisk(t, counted(api.MaxFiles))
	o := opened(t, d, 3)
	if got := errorTold(o.Commit(0, recs("a"))); got != "full out-03" || o.Len() != 0 || len(d.Files()) != api.MaxFiles {
		t.Errorf("P15.4.3: Commit to a disk of 400 files answers %s, %d records, %d files", got, o.Len(), len(d.Files()))
	}
	if got := errorTold(o.Commit(0, nil)); got != "ok" {
		t.Errorf("P15.4: Commit of nothing to a disk of 400 files answers %s", got)
	}
	d.Remove("f7")
	if got := errorTold(o.Commit(0, recs("b"))); got != "ok" || recsTold(o.Records()) != "b" || logTold(fileOf(d, 3).Data) != "b" {
		t.Errorf("P15.4.3: Commit to a disk of 399 files answers %s, the records are %s", got, recsTold(o.Records()))
	}
}

// sized gives the record whose frame at a number has so many bytes (some 16 to 50).
func sized(at, size int) api.Record {
	for key := range api.MaxKey + 1 {
		r := api.Record{Key: strings.Repeat("k", key), Val: api.Value{Kind: api.Text}}
		more := size - len(logOf(at, []api.Record{r}))
		if more >= 0 && more <= api.MaxText {
			r.Val.Text = strings.Repeat("t", more)
			return r
		}
	}
	panic(fmt.Sprint("no frame of ", size, " bytes"))
}

// filling gives records whose log has so many bytes.
func filling(size int) []api.Record {
	var all []api.Record
	for left := size; left > 0; {
		next := left
		if left > 90 {
			next = 45
		} else if left > 50 {
			next = left / 2
		}
		all = append(all, sized(len(all), next))
		left -= next
	}
	return all
}

// TestAFullFile: a log of just MaxFile bytes can be, in one Commit or in many; one byte more can't.
func TestAFullFile(t *testing.T) {
	whole := filling(api.MaxFile)
	if size := len(logOf(0, whole)); size != api.MaxFile || len(whole) < 1000 {
		t.Fatalf("%d records fill %d bytes", len(whole), size)
	}
	for _, pieces := range []int{1, 2, 7, 100, len(whole)} {
		d := newDisk(t, nil)
		o := opened(t, d, 0)
		for k := range pieces {
			from, end := k*len(whole)/pieces, (k+1)*len(whole)/pieces
			if err := o.Commit(from, whole[from:end]); err != nil {
				t.Fatalf("P15.5: Commit of the records %d to %d of a full file: %v", from, end, err)
			}
		}
		if f := fileOf(d, 0); string(f.Data) != string(logOf(0, whole)) || f.Synced != api.MaxFile || !equal.Records(o.Records(), whole) {
			t.Fatalf("P15.5: a full file in %d pieces has %d bytes, %d of them sure, and %d records", pieces, len(f.Data), f.Synced, o.Len())
		}
		if got := errorTold(o.Commit(len(whole), recs("-"))); got != "full out-00" || o.Len() != len(whole) {
			t.Errorf("P15.4.3: one record more in a full file: %s, %d records", got, o.Len())
		}
		if got := errorTold(o.Commit(0, whole)); got != "ok" {
			t.Errorf("P15.4: all records of a full file again: %s", got)
		}
		if got := opened(t, d, 0).Records(); !equal.Records(got, whole) {
			t.Errorf("P15.2: %d records are found in a full file", len(got))
		}
	}
	much := filling(api.MaxFile + 1)
	d := newDisk(t, nil)
	o := opened(t, d, 0)
	if got := errorTold(o.Commit(0, much)); got != "full out-00" || o.Len() != 0 || len(d.Files()) != 0 {
		t.Errorf("P15.4.3: a byte too much: %s, %d records, files %d", got, o.Len(), len(d.Files()))
	}
	last := len(much) - 1
	if a, b := o.Commit(0, much[:last]), errorTold(o.Commit(last, much[last:])); a != nil || b != "full out-00" || o.Len() != last {
		t.Errorf("P15.4.3: a byte too much with the last record: %v, %s, %d records", a, b, o.Len())
	}
	if got := errorTold(o.Commit(last, recs("-"))); got != "ok" || o.Len() != last+1 {
		t.Errorf("P15.4.3: a smaller record in the place of one that had no room: %s, %d records", got, o.Len())
	}
}
