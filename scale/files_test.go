package scale_test

import (
	"fmt"
	"slices"
	"strings"
	"testing"

	"eddy/api"
	"eddy/disk"
	"eddy/engine"
	"eddy/equal"
	"eddy/heal"
	"eddy/outlet"
	"eddy/pen"
	"eddy/plan"
	"eddy/scale"
	"eddy/vault"
)

// steps lets an engine do what stands in a script's text, with ; between.
func steps(e *engine.Engine, text string) {
	ops, err := plan.ParseScript(strings.ReplaceAll(text, ";", "\n"))
	if err != nil {
		panic("no script: " + text)
	}
	for _, op := range ops {
		e.Do(op)
	}
}

const (
	let   = "pick 0 0; pick 1 0; pick 2 0"
	shoot = "trigger; pick 0 0; pick 1 0; pick 2 0; post; post; post"
)

// stored gives what a disk holds behind two shots of the chapter's plan: the first with one record, the second with three.
func stored(t *testing.T) []api.File {
	t.Helper()
	e := sums().open(t, api.Overtaking, nil)
	steps(e, let+";"+shoot+";"+let+";"+let+"; pick 0 0;"+shoot)
	if got := filesTold(e.Files()); got != "man-0001, man-0002, out-02, seg-0001-00, seg-0001-01, seg-0001-02, seg-0002-00, seg-0002-01, seg-0002-02" {
		t.Fatalf("the files are %s", got)
	}
	return e.Files()
}

// changed gives files of which the one of a name is another; nil: it is gone. A name that none has is a new one.
func changed(files []api.File, name string, f func(f api.File) *api.File) []api.File {
	var all []api.File
	met := false
	for _, one := range files {
		if one.Name == name {
			met = true
			one.Data = slices.Clone(one.Data)
			g := f(one)
			if g == nil {
				continue
			}
			one = *g
		}
		all = append(all, one)
	}
	if !met {
		all = append(all, *f(api.File{Name: name}))
	}
	return all
}

func gone(files []api.File, names ...string) []api.File {
	for _, name := range names {
		files = changed(files, name, func(api.File) *api.File { return nil })
	}
	return files
}

// holds gives files of which the one of a name has these bytes, so many of them sure.
func holds(files []api.File, name string, data []byte, sure int) []api.File {
	return changed(files, name, func(f api.File) *api.File { return &api.File{Name: name, Data: data, Synced: sure} })
}

// unsure gives files of which the one of a name has so many sure bytes less.
func unsure(files []api.File, name string, count int) []api.File {
	return changed(files, name, func(f api.File) *api.File {
		f.Synced = max(0, f.Synced-count)
		return &f
	})
}

func named(files []api.File, name string) api.File {
	return files[slices.IndexFunc(files, func(f api.File) bool { return f.Name == name })]
}

// filesFault tells where Files isn't what the model gives, or P21.12 isn't so.
func (g ground) filesFault(files []api.File) string {
	text, tapes := g.texts()
	name := g.plan.Tasks[g.task].Name
	if got, want := layer().lays(text, tapes, name, files, g.bounds), model().lays(text, tapes, name, files, g.bounds); got != want {
		return fmt.Sprintf("P21.8: Files answers\n%s, want\n%s", got, want)
	}
	wide, moved, err := scale.Files(text, tapes, name, files, g.bounds...)
	if err != nil {
		return ""
	}
	if !slices.IsSortedFunc(moved, func(a, b api.File) int { return strings.Compare(a.Name, b.Name) }) {
		return "P21.8: the files are in another order: " + filesTold(moved)
	}
	for mode := 1; mode <= 3; mode++ {
		a, aErr := engine.New(text, tapes, mode, files)
		b, bErr := engine.New(wide, tapes, mode%3+1, moved)
		if aErr != nil || bErr != nil {
			return fmt.Sprint("P21.12: no engine: ", aErr, bErr)
		}
		want, e := scale.Move(g.plan, g.tapes, g.task, a.Config(), g.bounds...)
		if e != api.OK || !equal.Config(b.Config(), want) {
			return fmt.Sprint("P21.12: it comes up at ", pen.TellConfig(b.Config()), ", want ", pen.TellConfig(want), ", error ", int(e))
		}
		if x, y := a.Status(), b.Status(); x.Last != y.Last || x.Up != y.Up || x.Halted != y.Halted {
			return fmt.Sprint("P21.12: the status is ", y, ", want ", x)
		}
		if x, y := pen.TellLists(a.Committed()), pen.TellLists(b.Committed()); x != y && len(files) <= 300 {
			return fmt.Sprint("P21.12: ", y, " is committed, want ", x)
		}
	}
	return ""
}

// wantFiles fails the test where Files gives other files for a ground, or where they aren't what they must be.
func (g ground) wantFiles(t *testing.T, files []api.File, want string) {
	t.Helper()
	text, moved, err := g.files(files)
	got := filesTold(moved)
	if err != nil {
		got = errorTold(err)
	}
	if got != want {
		t.Errorf("P21.8: over %s: Files gives %s, want %s", filesTold(files), got, want)
	}
	if printed, _ := plan.PrintPlan(g.wide().plan); err == nil && text != printed {
		t.Errorf("P21.8: the text is %q, want %q", text, printed)
	}
	if why := g.filesFault(files); why != "" {
		t.Errorf("over %s: %s", filesTold(files), why)
	}
}

const (
	first  = "man-0001, out-02, seg-0001-00, seg-0001-01, seg-0001-02, seg-0001-03, seg-0001-04, seg-0001-05"
	second = "man-0002, out-02, seg-0002-00, seg-0002-01, seg-0002-02, seg-0002-03, seg-0002-04, seg-0002-05"
)

// TestFiles: no shot, one, several; files that are sure, half sure, torn, spoilt, foreign and missing.
func TestFiles(t *testing.T) {
	g := sums()
	files := stored(t)
	log := named(files, "out-02")
	_, size := outlet.Scan(log.Data)
	one := log.Data[:size/3]
	if l, n := outlet.Scan(one); len(l) != 1 || n != len(one) {
		t.Fatalf("the output log's records aren't of the same size: %d bytes", size)
	}
	turned := func(name string, bit int) []api.File {
		return changed(files, name, func(f api.File) *api.File {
			f.Data[bit/8] ^= 1 << (bit % 8)
			return &f
		})
	}
	for _, x := range []struct {
		files []api.File
		want  string
	}{
		{nil, ""}, {files, second},
		{gone(files, "man-0002"), first}, {gone(files, "seg-0002-02"), first}, {gone(files, "man-0001"), second}, {gone(files, "man-0001", "man-0002"), "out-02"},
		{gone(files, "man-0001", "seg-0002-01"), "out-02"}, {turned("man-0002", 40), first}, {turned("seg-0002-01", 99), first}, {turned("seg-0001-01", 99), second},
		// A segment that is less sure is torn by the fall; one of the manifest's bytes is enough.
		{unsure(files, "seg-0002-00", 1), first}, {unsure(files, "man-0002", 1), first}, {unsure(unsure(files, "man-0002", 999), "man-0001", 1), "out-02"}, {unsure(files, "seg-0001-00", 1), second},
		// Foreign files are not taken along.
		{append(slices.Clone(files), api.File{Name: "other", Data: []byte("x"), Synced: 1}, api.File{Name: "out-00", Data: one, Synced: len(one)}, api.File{Name: "out-2"}, api.File{Name: "out-03"}), second},
		{append(slices.Clone(files), api.File{Name: "man-0007"}, api.File{Name: "seg-0009-00", Data: []byte("torn"), Synced: 2}, api.File{Name: "man-9999", Data: named(files, "man-0002").Data}), second},
		// An output log that holds too little for both, for the second alone, or more than is needed.
		{gone(files, "out-02"), strings.Replace(first, "out-02, ", "", 1)},
		{holds(files, "out-02", nil, 0), first}, {unsure(files, "out-02", 999), first}, {holds(files, "out-02", one, len(one)), second}, {holds(files, "out-02", one, len(one)-1), first},
		{holds(files, "out-02", log.Data, len(one)), second}, {holds(files, "out-02", append(slices.Clone(log.Data), "torn"...), len(log.Data)+4), second}, {unsure(files, "out-02", 1), second},
		{holds(nil, "out-02", nil, 0), "out-02"}, {holds(nil, "out-02", log.Data, len(log.Data)), "out-02"}, {holds(nil, "out-02", []byte("no log"), 6), "out-02"},
	} {
		g.wantFiles(t, x.files, x.want)
	}
	// Of another plan, or of other tapes, no shot is moved; the output log is.
	g.with(pen.ReadLists("a=1")).wantFiles(t, files, "out-02")
	other := sums()
	other.plan.Cap = 5
	other.wantFiles(t, files, "out-02")
	g.by("a", "b").wantFiles(t, files, second+", seg-0002-06")
}

// TestWhatTheFilesHold: byte by byte what stands in them.
func TestWhatTheFilesHold(t *testing.T) {
	g := sums()
	files := stored(t)
	log := named(files, "out-02")
	_, moved, err := g.files(holds(files, "out-02", append(slices.Clone(log.Data), "torn"...), len(log.Data)+2))
	if err != nil {
		t.Fatal(err)
	}
	for _, f := range moved {
		if f.Synced != len(f.Data) {
			t.Errorf("P21.8: %s isn't sure", f.Name)
		}
	}
	if got := named(moved, "out-02"); string(got.Data) != string(log.Data) {
		t.Errorf("P21.8: the output log holds %q, want %q", got.Data, log.Data)
	}
	d, _ := disk.New(moved)
	s, err := vault.Open(d).Load(2)
	if want := fmt.Sprint("2 ", heal.Sum(g.wide().plan, g.tapes), " {4} {0; a:[1] []} {3 [] <m=5 | z=2>} {0 [a=10]} {0; m:[5]; z:[2] []} {0 [] []}"); err != nil || shotTold(s) != want {
		t.Errorf("P21.8: the shot is %s, %v, want %s", shotTold(s), err, want)
	}
	// What Save writes on a disk that holds the logs alone.
	fresh, _ := disk.New([]api.File{log})
	if err := vault.Open(fresh).Save(s); err != nil || bytesTold(fresh.Files()) != bytesTold(moved) {
		t.Errorf("P21.8: the files are %s, want %s", bytesTold(moved), bytesTold(fresh.Files()))
	}
}

// TestEachBitAndEachByte: a bit that is turned in any file, each number of sure bytes, and each number of bytes.
func TestEachBitAndEachByte(t *testing.T) {
	g := sums()
	files := stored(t)
	met := map[string]int{}
	try := func(what string, l []api.File) {
		t.Helper()
		if why := g.filesFault(l); why != "" {
			t.Fatalf("%s: %s", what, why)
		}
		_, moved, _ := g.files(l)
		met[filesTold(moved)]++
	}
	for _, f := range files {
		for at := range len(f.Data) {
			bit := 1 << ((at * 5) % 8)
			try(fmt.Sprint("byte ", at, " of ", f.Name, " is another"), changed(files, f.Name, func(f api.File) *api.File {
				f.Data[at] ^= byte(bit)
				return &f
			}))
			try(fmt.Sprint(f.Name, " has ", at, " sure bytes"), holds(files, f.Name, f.Data, at))
			try(fmt.Sprint(f.Name, " has ", at, " bytes"), holds(files, f.Name, f.Data[:at], at))
		}
	}
	wantCases(t, met, 100, first, second)
}

// TestTheMostFiles: as many as a disk has room for.
func TestTheMostFiles(t *testing.T) {
	g := sums()
	files := stored(t)
	for _, count := range []int{299, 300, 301, 399, api.MaxFiles} {
		many := slices.Clone(files)
		for k := 0; len(many) < count; k++ {
			many = append(many, api.File{Name: fmt.Sprint("other-", k), Data: []byte("x"), Synced: k % 2})
		}
		g.wantFiles(t, many, second)
		without := gone(many, "out-02")
		if why := g.filesFault(append(without, api.File{Name: "zz"})); why != "" {
			t.Errorf("%d files: %s", count, why)
		}
	}
}

// TestFilesErrors: each error ahead of the next, with its type, line, place, file and number.
func TestFilesErrors(t *testing.T) {
	text, tapes := sums().texts()
	good := stored(t)
	bad := [][]api.File{{{Name: "A"}}, {{}}, {{Name: "a"}, {Name: "a"}}, {{Name: "a", Synced: 1}}, {{Name: "a", Synced: -1}}, {{Name: "a", Data: make([]byte, 65537)}}, make([]api.File, 401)}
	type given struct {
		text   string
		tapes  []string
		files  []api.File
		name   string
		bounds []string
	}
	type choice struct {
		set  func(x *given)
		want string
	}
	plans := func(s string) func(x *given) { return func(x *given) { x.text = s } }
	onTapes := func(l ...string) func(x *given) { return func(x *given) { x.tapes = l } }
	over := func(l []api.File) func(x *given) { return func(x *given) { x.files = l } }
	names := func(s string) func(x *given) { return func(x *given) { x.name = s } }
	by := func(l ...string) func(x *given) { return func(x *given) { x.bounds = l } }
	all := [][]choice{
		{{plans(text), ""}, {plans(""), "fault 1 0 error 66"}, {plans("plan"), "fault 1 4 error 62"}, {plans("plan 1\n\ntask a map key"), "fault 3 14 error 61"}, {plans("plan 1\ntask a filter 1+  "), "fault 2 16 error 36"},
			{plans(strings.Repeat(" ", 3001)), "fault 0 0 error 60"}, {plans("plan 1"), "error 70"}, {plans("plan 1\ntask s source 4"), "error 72"}, {plans("plan 2\ntask s source 0"), "error 75"}},
		{{onTapes(tapes...), ""}, {onTapes("x", "x", "x", "x", "x"), "error 191"}, {onTapes("", "# none\n x"), "fault 2 1 error 67"}, {onTapes("\"a\"", "x"), "fault 1 3 error 28"}, {onTapes("", "", "", strings.Repeat(" ", 4001)), "fault 0 0 error 60"}, {onTapes(), "error 90"}},
		{{over(good), ""}, {over(nil), ""}, {over(bad[0]), "error 105"}, {over(bad[1]), "error 105"}, {over(bad[2]), "error 105"}, {over(bad[3]), "error 105"}, {over(bad[4]), "error 105"}, {over(bad[5]), "error 105"}, {over(bad[6]), "error 105"}},
		{{names("f"), ""}, {names(""), "error 200"}, {names("nobody"), "error 200"}, {names("F"), "error 200"}, {names("f "), "error 200"}, {names("x0"), "error 200"}, {names("s"), "error 200"}, {names("k"), "error 200"}, {names("1"), "error 200"}},
		{{by("g"), ""}, {by(), "error 201"}, {by("g", "g"), "error 201"}, {by("a", "b", "c", "d"), "error 201"}, {by("abcdefghijklm"), "error 201"}},
	}
	taken := 0
	for row := range pen.Rows([]int{0, 1, 2, 3, 4, 5, 6, 7, 8}, len(all)) {
		var x given
		want, known := "", true
		for k, n := range row {
			if n >= len(all[k]) {
				known = false
				break
			}
			if all[k][n].set(&x); want == "" {
				want = all[k][n].want
			}
		}
		if !known {
			continue
		}
		if want == "" {
			taken++
			continue
		}
		if got := layer().lays(x.text, x.tapes, x.name, x.files, x.bounds); got != want {
			t.Fatalf("P21.8: %q with the tapes %q, the name %q, the bounds %q over %.200s: %s, want %s", x.text, x.tapes, x.name, x.bounds, filesTold(x.files), got, want)
		}
	}
	if taken != 2 {
		t.Errorf("%d are taken", taken)
	}
	nine, _ := plan.PrintPlan(great(10))
	if got := layer().lays(nine, []string{""}, "f", nil, []string{"g"}); got != "error 70" {
		t.Errorf("P21.8: a plan that is too great to be spread: %s", got)
	}
}

// greatValue gives a value as great as a value may be.
func greatValue(n int) api.Value {
	text := func(k int) string { return fmt.Sprintf("a text of 24 bytes %05d", n*20+k) }
	var items []api.Value
	for k := range 5 {
		items = append(items, api.Value{Kind: api.Text, Text: text(k)})
	}
	inner := api.Value{Kind: api.List}
	for k := range 5 {
		inner.Items = append(inner.Items, api.Value{Kind: api.Text, Text: text(10 + k)})
	}
	return api.Value{Kind: api.List, Items: append(items, inner)}
}

// greatCells gives so many cells whose keys begin so, each of so many values, an int ahead of them, if it is a join's.
func greatCells(count, vals int, join bool) []api.Cell {
	var all []api.Cell
	for k := range count {
		c := api.Cell{Key: fmt.Sprintf("k%02d", k)}
		if join {
			c.Vals = append(c.Vals, api.Value{Kind: api.Int, Int: 3})
		}
		for n := range vals {
			c.Vals = append(c.Vals, greatValue(k*10+n))
		}
		all = append(all, c)
	}
	return all
}

// chained gives what a disk holds behind shots of states, each of one task, that grow: the last one can be stored as a difference alone.
func chained(t *testing.T, g ground, task int, states ...api.State) []api.File {
	t.Helper()
	d, _ := disk.New(nil)
	v := vault.Open(d)
	for id, state := range states {
		s := api.Shot{Id: id + 1, Sum: heal.Sum(g.plan, g.tapes)}
		for k, ins := range g.shape().Ins {
			part := api.Part{Logs: make([][]api.Record, len(ins))}
			if k == task {
				part.State = state
			}
			s.Parts = append(s.Parts, part)
		}
		if err := v.Save(s); err != nil {
			t.Fatalf("no shot: %v", err)
		}
	}
	return d.Files()
}

// TestAStoreThatIsRefused: a state that is too great for one file, and was stored as a difference, can't be stored by itself; spread over copies it can.
func TestAStoreThatIsRefused(t *testing.T) {
	g := reads("a=1", "w", "k30", "s source 0", "e tee", "w window 6", "j join", "k sink", "s.0 e.0", "e.0 w.0", "w.0 j.0", "e.1 j.1", "j.0 k.0")
	small, whole := greatCells(45, 2, true), greatCells(64, 2, true)
	files := chained(t, g, 3, api.State{Cells: small}, api.State{Cells: whole})
	g.wantFiles(t, files, `lost 2 "seg-0002-03" error 10`)
	// The one before it can be.
	g.wantFiles(t, gone(files, "man-0002"), "man-0001, seg-0001-00, seg-0001-01, seg-0001-02, seg-0001-03, seg-0001-04, seg-0001-05, seg-0001-06, seg-0001-07")
	text, tapes := g.texts()
	if wide, l, err := scale.Files(text, tapes, "w", files, "k30"); wide != "" || l != nil || err == nil {
		t.Errorf("P21.8: beside the error %v there is %q, %s", err, wide, filesTold(l))
	}
	if got := layer().lays(text, tapes, "w", files, nil); got != "error 201" {
		t.Errorf("P21.8: with no bounds: %s", got)
	}
	half, full := greatCells(25, 4, false), greatCells(40, 4, false)
	files = chained(t, g, 2, api.State{Cells: half}, api.State{Cells: full})
	g.by("k20").wantFiles(t, files, "man-0002, seg-0002-00, seg-0002-01, seg-0002-02, seg-0002-03, seg-0002-04, seg-0002-05, seg-0002-06, seg-0002-07")
	g.by("k00").wantFiles(t, files, `lost 2 "seg-0002-06" error 10`)
	g.by("k99").wantFiles(t, files, `lost 2 "seg-0002-02" error 10`)
}

// TestDrawnFiles: drawn disks, whole and harmed, against the model; and P21.12, in all modes.
func TestDrawnFiles(t *testing.T) {
	met := map[string]int{}
	for seed := range 250 {
		w := seeded(seed)
		g := w.ground()
		files := w.disk(t, g)
		if why := g.filesFault(files); why != "" {
			t.Fatalf("seed %d: %v: over %s: %s", seed, g, filesTold(files), why)
		}
		_, moved, err := g.files(files)
		shot := slices.ContainsFunc(moved, func(f api.File) bool { return strings.HasPrefix(f.Name, "man-") })
		logs := slices.ContainsFunc(moved, func(f api.File) bool { return strings.HasPrefix(f.Name, "out-") })
		met[fmt.Sprint(errorTold(err), ", a shot: ", shot, ", logs: ", logs)]++
	}
	wantCases(t, met, 20, "ok, a shot: true, logs: true", "ok, a shot: true, logs: false", "ok, a shot: false, logs: false")
	wantCases(t, met, 5, "ok, a shot: false, logs: true")
}

// TestShotsMadeByHand: any configuration of a plan may stand in a shot, its lanes holding more than their bound.
func TestShotsMadeByHand(t *testing.T) {
	met := map[string]int{}
	for seed := range 300 {
		w := seeded(seed)
		g := w.ground()
		s, committed := w.shotOf(g, w.config(g), pen.One(w.Pen, 1, 7, 9999))
		d, _ := disk.New(nil)
		for k, sink := range g.shape().Sinks {
			if o, err := outlet.Open(d, sink); err != nil || o.Commit(0, committed[k]) != nil {
				t.Fatalf("no output log: %v", err)
			}
		}
		if err := vault.Open(d).Save(s); err != nil {
			met["not stored"]++
			continue
		}
		files := d.Files()
		if w.Below(4) == 0 {
			files = w.Harmed(files)
		}
		if why := g.filesFault(files); why != "" {
			t.Fatalf("seed %d: %v: over a shot %s: %s", seed, g, shotTold(s), why)
		}
		_, _, err := g.files(files)
		met[errorTold(err)]++
	}
	wantCases(t, met, 150, "ok")
}
