package engine_test

import (
	"fmt"
	"slices"
	"strings"
	"testing"

	"eddy/api"
)

// The steps of line that take a snapshot, and those that let a record through ahead of it.
const (
	shoot   = "trigger; pick 0 0; pick 1 0; post; post"
	shot    = "6 2 2 7 9"
	through = "pick 0 0; pick 1 0"
)

func TestComesUpOverNothing(t *testing.T) {
	for _, g := range grounds() {
		_, _, _, f := g.parts()
		for mode := 1; mode <= 3; mode++ {
			e := plays(t, "P19.2", g.in(mode), "status = up next 1", "trail = up 0", "files =", "crash; recover -> 11 12", "status = up next 1", "trail = up 0, down, up 0")
			if !f.Same(e.Config(), f.Start()) {
				t.Errorf("P19.2: %v: over an empty disk the configuration is %v", g, e.Config())
			}
		}
	}
}

// TestComesUpAtTheNewestShot: with all that a life begins with.
func TestComesUpAtTheNewestShot(t *testing.T) {
	inModes(t, "P19.2", long(), through+"; "+shoot+" -> 1 1 "+shot, through+"; "+shoot+" -> 1 1 "+shot,
		"trigger; abort; trigger; pick 0 0 -> 6 10 6 2", "status = up under 4 last 2 next 5 aborts 1",
		"crash -> 11", "status = down last 2", "recover -> 12", "status = up last 2 next 3", "config = 2 / 2 # # a=1 | b=2",
		"pick 1 0; post; abort -> 4 4 0", through+"; "+shoot+" -> 1 1 "+shot, "status = up last 3 next 4", "outs = a=1 | b=2 | c=3",
		"files = man-0002, man-0003, out-01, seg-0002-00, seg-0002-01, seg-0003-00, seg-0003-01")
}

// twoShots gives a ground and the files of two shots of it: the first with a, the second with a and b; a is committed with the first.
func twoShots(t *testing.T) (ground, []api.File) {
	t.Helper()
	e := plays(t, "P19.4", long(), through+"; "+shoot+" -> 1 1 "+shot, through+"; "+shoot+" -> 1 1 "+shot,
		"files = man-0001, man-0002, out-01, seg-0001-00, seg-0001-01, seg-0002-00, seg-0002-01",
		"shot 1 = 1 {1} {1 [] <a=1>}", "shot 2 = 2 {2} {2 [] <b=2>}")
	return long(), e.Files()
}

// TestComesUpOverSpoiltFiles: a bit of any file is turned.
func TestComesUpOverSpoiltFiles(t *testing.T) {
	g, files := twoShots(t)
	met := map[string]int{}
	for k, f := range files {
		for bit := range 8 * len(f.Data) {
			e := g.over(files...).open(t)
			if got := does(e, fmt.Sprintf("spoil %d %d; crash; recover", k, bit)); got != "14 11 12" {
				t.Fatalf("P19.2: bit %d of %s is turned: the steps answer %s", bit, f.Name, got)
			}
			want := []string{"up last 2 next 3", "up 2, down, up 2, commit 1 2", "a=1 | b=2", "man-0002, out-01, seg-0002-00, seg-0002-01"}
			switch {
			case strings.Contains(f.Name, "-0002"):
				want = []string{"up last 1 next 3", "up 2, down, up 1, commit 1 2", "a=1 | b=2", "man-0001, out-01, seg-0001-00, seg-0001-01"}
			case f.Name == "out-01" && bit < 4*len(f.Data):
				// Shot 2 lacks output, and is whole: nothing is taken away.
				want = []string{"up last 1 next 3", "up 2, down, up 1, commit 1 1", "a=1", filesTold(files)}
			case f.Name == "out-01":
				want[3] = filesTold(files)
			}
			met[want[1]+want[3]]++
			want[1] = "up 2, commit 1 2, " + strings.TrimPrefix(want[1], "up 2, ")
			for n, q := range []string{"status", "trail", "outs", "files"} {
				if got := asked(e, q); got != want[n] {
					t.Fatalf("P19.2: bit %d of %s is turned: %s is %s, want %s", bit, f.Name, q, got, want[n])
				}
			}
		}
	}
	if len(met) != 4 {
		t.Errorf("there are %d outcomes: %v", len(met), met)
	}
}

// TestComesUpOverMissingFiles: any files are gone.
func TestComesUpOverMissingFiles(t *testing.T) {
	g, files := twoShots(t)
	for set := range 1 << len(files) {
		var left []api.File
		there := map[string]bool{}
		next := 1
		for k, f := range files {
			if set>>k&1 != 0 {
				left = append(left, f)
				there[f.Name] = true
				if name := f.Name; name != "out-01" {
					next = max(next, int(name[7]-'0')+1)
				}
			}
		}
		whole := func(id string) bool { return there["man-"+id] && there["seg-"+id+"-00"] && there["seg-"+id+"-01"] }
		found, newest := 0, 0
		if whole("0001") {
			found, newest = 1, 1
		}
		if whole("0002") {
			newest = 2
			if there["out-01"] {
				found = 2
			}
		}
		if found == newest {
			left = slices.DeleteFunc(left, func(f api.File) bool { return f.Name != "out-01" && !whole(f.Name[4:8]) })
		}
		if found == 1 && !there["out-01"] {
			left = append(left, api.File{Name: "out-01"})
			slices.SortFunc(left, func(a, b api.File) int { return strings.Compare(a.Name, b.Name) })
		}
		var names []string
		for _, f := range left {
			names = append(names, f.Name)
		}
		status := api.Status{Up: true, Last: found, Next: next}
		plays(t, "P19.2", g.over(setOf(files, set)...), "status = "+statusTold(status), "files = "+strings.Join(names, ", "))
	}
}

// setOf gives the files whose bits are set.
func setOf(files []api.File, set int) []api.File {
	var all []api.File
	for k, f := range files {
		if set>>k&1 != 0 {
			all = append(all, f)
		}
	}
	return all
}

// TestComesUpOverTornFiles: any file is cut at any byte.
func TestComesUpOverTornFiles(t *testing.T) {
	g, files := twoShots(t)
	for k, f := range files {
		for size := range len(f.Data) {
			cut := slices.Clone(files)
			cut[k] = api.File{Name: f.Name, Data: f.Data[:size], Synced: size}
			e, m := g.over(cut...).open(t), g.over(cut...).model(t)
			if why := difference(e, m); why != "" {
				t.Fatalf("P19.2: %s is cut to %d bytes: %s", f.Name, size, why)
			}
			want := 2
			if strings.Contains(f.Name, "-0002") || f.Name == "out-01" && size < len(f.Data)/2 {
				want = 1
			}
			if s := e.Status(); s.Last != want || s.Next != 3 {
				t.Fatalf("P19.2: %s is cut to %d bytes: the status is %s, want last %d", f.Name, size, statusTold(s), want)
			}
		}
	}
}

// TestComesUpOverForeignFiles: shots of another plan or of other tapes are passed over, and stay; files of other names are no business of the engine's.
func TestComesUpOverForeignFiles(t *testing.T) {
	g, files := twoShots(t)
	others := []ground{g.with(g.tapes[0] + "\"g\" 7\n"), g.with(g.tapes[0], ""), g.with(strings.Replace(g.tapes[0], "6", "7", 1)), {text: strings.Replace(g.text, "plan 2", "plan 3", 1), tapes: g.tapes, mode: 2},
		{text: strings.NewReplacer("task k", "task q", "k.0", "q.0").Replace(g.text), tapes: g.tapes, mode: 2}}
	for _, other := range others {
		plays(t, "P19.2, foreign shots", other.over(files...), "status = up next 3", "config = 0 / 0 # #", "outs = a=1 | b=2", "trail = up 0", "files = "+filesTold(files))
		// Of the two newest sure shots one is foreign still.
		plays(t, "P19.4, foreign shots", other.over(files...), through+"; "+shoot+" -> 1 1 "+shot, "status = up last 3 next 4", "outs = a=1 | b=2",
			"files = man-0002, man-0003, out-01, seg-0002-00, seg-0002-01, seg-0003-00, seg-0003-01")
	}
	strange := []api.File{{Name: "man-0000"}, {Name: "man-00001"}, {Name: "out-00", Data: []byte("x"), Synced: 1}, {Name: "out-11"}, {Name: "seg-0001-12"}, {Name: "x"}}
	plays(t, "P19.2, other names", g.over(strange...), "status = up next 1", "files = "+filesTold(strange), through+"; "+shoot+" -> 1 1 "+shot,
		"files = man-0000, man-00001, man-0001, out-00, out-01, out-11, seg-0001-00, seg-0001-01, seg-0001-12, x")
}

// TestPruneHasItsTurn: behind a coming up, if the shot that was found is the newest one that is whole, and if none is whole and none was found.
func TestPruneHasItsTurn(t *testing.T) {
	g, files := twoShots(t)
	piece := func(name string) api.File { return api.File{Name: name, Data: []byte("torn"), Synced: 4} }
	plays(t, "P19.2.5, none is whole", g.over(piece("man-0007"), piece("seg-0008-11"), piece("seg-0001-00"), piece("y")), "status = up next 9", "files = y")
	plays(t, "P19.2.5, the newest is found", g.over(append(files, piece("man-0007"), piece("seg-0008-11"))...), "status = up last 2 next 9", "files = "+filesTold(files))
	foreign := g.with("\"z\" 1")
	other := plays(t, "P19.4", foreign.over(piece("man-0004")), through+"; "+shoot+" -> 1 1 "+shot).Files()
	other = slices.DeleteFunc(other, func(f api.File) bool { return f.Name == "out-01" })
	all := append(slices.Clone(files), other...)
	all = append(all, piece("seg-0008-11"))
	slices.SortFunc(all, func(a, b api.File) int { return strings.Compare(a.Name, b.Name) })
	plays(t, "P19.2.5, a whole one is newer", g.over(all...), "status = up last 2 next 9", "files = "+filesTold(all))
	plays(t, "P19.2.5, none is found, and one is whole", g.with("").over(all...), "status = up next 9", "files = "+filesTold(all))
}

// The steps of fork that let a record through, and those that take a snapshot up to its last post.
const (
	forkThrough = "pick 1 0; pick 3 0; pick 0 0; pick 2 0; pick 4 0"
	forkShoot   = "trigger; pick 1 0; pick 3 0; pick 0 0; pick 2 0; pick 4 0; post; post; post; post"
	forkShot    = "6 2 2 2 2 2 7 7 7 7"
)

// fallen lets a machine of fork fall in the commit of its third shot: the output log of the second sink has a torn end, other output is pending, and pieces of the second shot, which was given up, lie about. It gives the steps that lead there.
func fallen(t *testing.T) string {
	t.Helper()
	steps := strings.Join([]string{forkThrough, forkShoot, "post", forkThrough, forkShoot, "fail 1 after 3; post", forkThrough, forkShoot}, "; ")
	for units := range 2000 {
		e := fork().open(t)
		all := steps + fmt.Sprint("; arm ", units, "; post")
		does(e, all)
		torn := slices.ContainsFunc(e.Files(), func(f api.File) bool { return f.Name == "out-02" && len(f.Data)-f.Synced == 5 })
		if torn && strings.HasSuffix(asked(e, "trail"), ", ready 3, complete 3, commit 0 3, down") {
			return all
		}
	}
	t.Fatal("the machine never falls there")
	return ""
}

// TestArmedComingUp: the machine falls in each of the parts of a coming up, as the step's A says; and it comes up behind that as if it hadn't.
func TestArmedComingUp(t *testing.T) {
	steps := fallen(t)
	lies := "man-0001, man-0003, out-00, out-02, out-04, seg-0001-00, seg-0001-01, seg-0001-02, seg-0001-03, seg-0001-04, seg-0003-00, seg-0003-01, seg-0003-02, seg-0003-03, seg-0003-04"
	whole := []string{"status = up last 3 next 4", "outs = a=1 | b=2 | c=3 / a=1 | b=2 | c=3 / a=1 | b=2 | c=3", "files = " + lies}
	plays(t, "P19.2", fork(), append([]string{steps, "recover 9999 -> 12"}, whole...)...)
	parts := map[string]int{}
	at := 0
	for units := range 2000 {
		e := plays(t, "P19.2", fork(), steps, fmt.Sprintf("recover arm %d 9999", units))
		trail := asked(e, "trail")
		_, trail, _ = strings.Cut(trail, "complete 3, commit 0 3, down, ")
		part := map[string]string{"down": "2", "up 3, commit 0 3, down": "4", "up 3, commit 0 3, commit 2 3, down": "4, the last sink", "up 3, commit 0 3, commit 2 3, commit 4 3, down": "5", "up 3, commit 0 3, commit 2 3, commit 4 3": "up"}[trail]
		if place := slices.Index([]string{"2", "4", "4, the last sink", "5", "up"}, part); place < at {
			t.Fatalf("P19.2: with %d units the machine comes up as %s, in part %q", units, trail, part)
		} else {
			at = place
		}
		parts[part]++
		if part == "up" {
			plays(t, "P19.2, the rig stays", fork(), steps, fmt.Sprintf("recover arm %d 9999 -> 12", units), whole[0], whole[1], whole[2], forkShoot+"; post -> "+forkShot+" 11")
			break
		}
		down := "status = down last 3"
		plays(t, "P19.2, P19.6", fork(), append([]string{steps, fmt.Sprintf("recover arm %d 9999; pick 1 0; post -> 11 11 11", units), down, "config = # #", "shot 3 = error 100", "recover 9999 -> 12"}, whole...)...)
		// Bytes that weren't sure may also be lost with the second fall.
		plays(t, "P19.2, P19.6", fork(), append([]string{steps, fmt.Sprintf("recover arm %d 9999; recover -> 11 12", units)}, whole...)...)
	}
	// The torn end is cut off by one call, two files of the second shot are taken away.
	if parts["2"] != 1 || parts["4"] < 10 || parts["4, the last sink"] < 10 || parts["5"] != 2 || parts["up"] != 1 {
		t.Errorf("P19.2: by their parts the falls are %v", parts)
	}
}

// TestArmedComingUpOverNothing: where nothing is to be changed, no number of units lets it fall; and A of 0 and below is no rig.
func TestArmedComingUpOverNothing(t *testing.T) {
	g, files := twoShots(t)
	for _, over := range [][]api.File{nil, files} {
		for _, a := range []int{-1 << 63, -1, 0, 1, 2, 3, 1<<63 - 1} {
			e := g.over(over...).open(t)
			last := e.Status().Last
			does(e, "crash")
			if did := e.Do(api.Op{Kind: api.OpRecover, A: a, B: 7}); did != api.DidUp || e.Status().Last != last || len(e.Files()) != len(over) {
				t.Errorf("P19.2: a recover with A %d answers %d, the status is %s", a, did, statusTold(e.Status()))
			}
			// With a few units the next save falls in its first call.
			want := map[bool]string{true: "1 1 6 2 2 7 11", false: "1 1 6 2 2 7 9"}[a >= 1 && a <= 3]
			if got := does(e, through+"; "+shoot); got != want {
				t.Errorf("P19.2: behind a recover with A %d a snapshot answers %s, want %s", a, got, want)
			}
		}
	}
}

// TestKeep: which unsure bytes stay is told by the files' order and the numbers gone round.
func TestKeep(t *testing.T) {
	// The first Sync of each save fails: the shot is given up, and a piece of it lies about till the machine comes up.
	steps := "trigger; pick 0 0; pick 1 0; post; fail 1 after 1; post"
	for _, keep := range []string{"", "0", "3", "9999", "0 9999", "9999 0", "-1 9999", "5 -7", "1 2 3 4"} {
		plays(t, "P19.2", line(), steps+" -> 6 2 2 7 14 10", steps+" -> 6 2 2 7 14 10", "files = seg-0001-00 0/16, seg-0002-00 0/16", "crash; recover "+keep+" -> 11 12", "status = up next 3", "files =")
	}
	// The manifest's Sync fails: the shot is there, if all of its bytes stay.
	steps = "pick 0 0; pick 1 0; trigger; pick 0 0; pick 1 0; post; fail 1 after 5; post -> 1 1 6 2 2 7 14 10"
	size := 0
	for _, f := range plays(t, "P19.4", line(), steps).Files() {
		if f.Name == "man-0001" {
			size = len(f.Data)
		}
	}
	for keep := range size + 2 {
		lines := []string{steps, fmt.Sprint("crash; recover ", keep, " -1 -> 11 12"), "status = up next 2", "outs =", "files =", "trigger -> 6"}
		if keep >= size {
			lines = []string{steps, fmt.Sprint("crash; recover ", keep, " -1 -> 11 12"), "status = up last 1 next 2", "outs = a=1", "files = man-0001, out-01, seg-0001-00, seg-0001-01"}
		}
		plays(t, "P19.2, P20.2", line(), lines...)
	}
}

// turned gives the steps that turn one file's bytes, bit by bit, into others of the same number.
func turned(t *testing.T, number int, from, to []byte) string {
	t.Helper()
	if len(from) != len(to) {
		t.Fatalf("%x can't be turned into %x", from, to)
	}
	var steps []string
	for bit := range 8 * len(from) {
		if (from[bit/8]^to[bit/8])>>(bit%8)&1 != 0 {
			steps = append(steps, fmt.Sprintf("spoil %d %d", number, bit))
		}
	}
	return strings.Join(steps, "; ")
}

// outOf gives the bytes of an output log that holds just the records of a tape.
func outOf(t *testing.T, tape string) []byte {
	t.Helper()
	count := strings.Count(tape, "\n")
	e := line().with(tape).open(t)
	does(e, strings.Repeat(through+"; ", count)+shoot)
	for _, f := range e.Files() {
		if f.Name == "out-01" {
			return f.Data
		}
	}
	t.Fatalf("nothing of %q is committed", tape)
	return nil
}

// TestPendingOutputAtComingUp: it is committed again, it clashes, or there is too little ahead of it.
func TestPendingOutputAtComingUp(t *testing.T) {
	g, files := twoShots(t)
	at := slices.IndexFunc(files, func(f api.File) bool { return f.Name == "out-01" })
	with := func(tape string) []api.File {
		all := slices.Clone(files)
		data := outOf(t, tape)
		all[at] = api.File{Name: "out-01", Data: data, Synced: len(data)}
		return append(all, api.File{Name: "seg-0009-00", Data: []byte("x"), Synced: 1})
	}
	plays(t, "P19.5, committed again", g.over(with("\"a\" 1\n\"b\" 2\n")...), "status = up last 2 next 10", "trail = up 2, commit 1 2", "outs = a=1 | b=2", "files = "+filesTold(files))
	plays(t, "P19.5, committed anew", g.over(with("\"a\" 1\n")...), "status = up last 2 next 10", "trail = up 2, commit 1 2", "outs = a=1 | b=2", "files = "+filesTold(files))
	plays(t, "P19.5, what stands ahead isn't looked at", g.over(with("\"z\" 9\n")...), "status = up last 2 next 10", "trail = up 2, commit 1 2", "outs = z=9 | b=2", "config = 2 / 2 # # z=9 | b=2")
	plays(t, "P19.5, more stands", g.over(with("\"a\" 1\n\"b\" 2\n\"c\" 7\n")...), "status = up last 2 next 10", "trail = up 2, commit 1 3", "outs = a=1 | b=2 | c=7", "config = 2 / 2 # # a=1 | b=2",
		"pick 0 0; pick 1 0 -> 1 1", shoot+" -> 6 2 2 7 13")
	for _, tape := range []string{"\"a\" 1\n\"c\" 2\n", "\"a\" 1\n\"b\" 3\n", "\"a\" 1\n\"b\" 3\n\"c\" 3\n"} {
		clash := with(tape)
		e := plays(t, "P19.2, P19.5, a clash", g.over(clash...), "status = up halted last 2 next 10", "trail = up 2", "files = "+filesTold(clash), "config = 2 / 2 # # a=1 | b=2", "shot 2 = 2 {2} {2 [] <b=2>}",
			"pick 0 0; trigger; crash; recover; spoil 0 0; arm 0 -> 13 13 13 13 13 13", "trail = up 2", "status = up halted last 2 next 10")
		if !sameFiles(e.Files(), clash) {
			t.Errorf("P19.2: behind a clash the files are %s", filesTold(e.Files()))
		}
	}
	// A gap: shot 2 asks for one record ahead of its own; it is passed over, and shot 1 is not the newest.
	gap := slices.Delete(slices.Clone(files), at, at+1)
	plays(t, "P19.2, a gap", g.over(gap...), "status = up last 1 next 3", "trail = up 1, commit 1 1", "outs = a=1", "files = "+filesTold(files))
}

// TestClashInARecover: an output log's bits are turned till it holds other records, and the machine halts as it comes up.
func TestClashInARecover(t *testing.T) {
	g, files := twoShots(t)
	at := slices.IndexFunc(files, func(f api.File) bool { return f.Name == "out-01" })
	spoils := turned(t, at, files[at].Data, outOf(t, "\"a\" 1\n\"b\" 9\n"))
	plays(t, "P19.2, P19.3, a clash", g.over(files...), "crash -> 11", spoils, "outs = a=1 | b=9", "recover; recover; pick 0 0 -> 13 13 13", "status = up halted last 2 next 3", "trail = up 2, commit 1 2, down, up 2",
		"outs = a=1 | b=9", "files = "+filesTold(files), "shot 1 = 1 {1} {1 [] <a=1>}", "shot 3 = lost 3 \"man-0003\" error 122")
	// What an open engine keeps of its logs isn't touched by that: it doesn't halt till it comes up anew.
	plays(t, "P19.5", g.over(files...), spoils, through+"; "+shoot+" -> 1 1 "+shot, "outs = a=1 | b=9 | c=3")
}
