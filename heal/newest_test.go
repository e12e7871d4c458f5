package heal_test

import (
	"errors"
	"fmt"
	"slices"
	"strings"
	"testing"

	"eddy/api"
	"eddy/disk"
	"eddy/equal"
	"eddy/frame"
	"eddy/heal"
	"eddy/pen"
	"eddy/vault"
	"eddy/wire"
)

// A store is a ground with a vault and its disk.
type store struct {
	ground
	*disk.Disk
	*vault.Vault
}

// begun gives a store over a new disk of these files.
func begun(g ground, files ...api.File) store {
	d, e := disk.New(files)
	if e != api.OK {
		panic(fmt.Sprint("no disk: error ", int(e)))
	}
	return store{g, d, vault.Open(d)}
}

// again gives a store over another disk that holds the same.
func (s store) again() store { return begun(s.ground, s.Files()...) }

// saved stores a shot under a number; it must be stored well.
func (s store) saved(t *testing.T, id int, shot api.Shot) store {
	t.Helper()
	shot.Id = id
	if err := s.Save(shot); err != nil {
		t.Fatalf("P12.9: Save of %s: %v", shotTold(shot), err)
	}
	return s
}

// put lays bytes in the place of a file, and makes them sure.
func (s store) put(name string, data []byte) {
	s.Remove(name)
	s.Append(name, data)
	s.Sync(name)
}

// names gives the names of all files, with blanks between them.
func (s store) names() string {
	var all []string
	for _, f := range s.Files() {
		all = append(all, f.Name)
	}
	return strings.Join(all, " ")
}

// lostTold writes those that were passed over: number, file and error. An entry that is no plain Lost is told as such.
func lostTold(all []*api.Lost) string {
	var words []string
	for _, l := range all {
		e, plain := l.Err.(api.Errno)
		var why api.Errno
		var found *api.Lost
		if !plain || !errors.Is(l, e) || !errors.As(l, &why) || why != e || !errors.As(l, &found) || found != l {
			words = append(words, fmt.Sprintf("no plain error %#v", l.Err))
		}
		words = append(words, strings.Join(strings.Fields(fmt.Sprint(l.Id, " ", l.Name, " ", errorTold(e))), " "))
	}
	return strings.Join(words, ", ")
}

// foundTold writes what a search answers, but for the shot and the configuration.
func foundTold(f api.Found, e api.Errno) string {
	if e != api.OK {
		return spaced(fmt.Sprint("error ", int(e), ": ", f.Id, " ", lostTold(f.Lost)))
	}
	return spaced(fmt.Sprint(f.Id, ": ", lostTold(f.Lost)))
}

func sameFound(a, b api.Found) bool {
	return a.Id == b.Id && equal.Shot(a.Shot, b.Shot) && equal.Config(a.Config, b.Config) && lostTold(a.Lost) == lostTold(b.Lost)
}

// newestFault holds Newest against the model, and against Load, Fits and Config one by one: what it answers, and what is wrong.
func (s store) newestFault(outs [][]api.Record) (api.Found, api.Errno, string) {
	files := s.Files()
	got, e := heal.Newest(s.Vault, s.plan, s.sh, s.tapes, outs)
	want, f := modelNewest(s.Vault, s.plan, s.sh, s.tapes, outs)
	if e != f || !sameFound(got, want) {
		return got, e, fmt.Sprintf("P17.4: over %s with the outputs %s Newest answers %s, %s, %s, want %s, %s, %s", s.names(), pen.TellLists(outs),
			foundTold(got, e), shotTold(got.Shot), pen.TellConfig(got.Config), foundTold(want, f), shotTold(want.Shot), pen.TellConfig(want.Config))
	}
	if !slices.EqualFunc(s.Files(), files, func(a, b api.File) bool {
		return a.Name == b.Name && string(a.Data) == string(b.Data) && a.Synced == b.Synced
	}) {
		return got, e, "P17.4: Newest changes the files " + s.names()
	}
	if e != api.OK {
		return got, e, ""
	}
	return got, e, s.passedFault(got, outs)
}

// holds tells whether a number loads, fits and has its outputs, and its configuration.
func (s store) holds(id int, outs [][]api.Record) (api.Shot, api.Config, bool) {
	shot, err := s.Load(id)
	if err != nil || heal.Fits(s.plan, s.sh, s.tapes, shot) != api.OK {
		return api.Shot{}, api.Config{}, false
	}
	c, e := heal.Config(s.plan, s.sh, shot, outs)
	return shot, c, e == api.OK
}

// passedFault tells where P17.7 doesn't hold.
func (s store) passedFault(f api.Found, outs [][]api.Record) string {
	for id := s.Next() - 1; id > f.Id; id-- {
		if _, _, holds := s.holds(id, outs); holds {
			return fmt.Sprint("P17.7: Newest passes over ", id, " for ", f.Id)
		}
	}
	if f.Id == 0 {
		if !equal.Shot(f.Shot, api.Shot{}) || !equal.Config(f.Config, s.flow().Start()) {
			return "P17.4: beside no shot Newest answers " + shotTold(f.Shot) + ", " + pen.TellConfig(f.Config)
		}
		return ""
	}
	shot, c, holds := s.holds(f.Id, outs)
	if !holds || !equal.Shot(shot, f.Shot) || !equal.Config(c, f.Config) {
		return fmt.Sprint("P17.7: Newest answers ", shotTold(f.Shot), ", ", pen.TellConfig(f.Config), " as shot ", f.Id)
	}
	if e := s.flow().Fits(c); e != api.OK {
		return fmt.Sprint("P17.8: Newest answers ", pen.TellConfig(c), ", which isn't one of the plan's: error ", int(e))
	}
	return ""
}

// wants fails the test where Newest answers another number, or tells of others.
func (s store) wants(t *testing.T, promise string, outs [][]api.Record, want string) {
	t.Helper()
	got, e, why := s.newestFault(outs)
	if why != "" {
		t.Error(why)
	}
	if told := foundTold(got, e); told != spaced(want) {
		t.Errorf("%s: over %s Newest answers %s, want %s", promise, s.names(), told, want)
	}
}

// enough is as many records as the shots of sums ask for.
func enough() [][]api.Record { return pen.ReadLists("o=1 | o=2 | o=3") }

// three gives a store of sums with the right shots 2, 5 and 9; 9 has differences.
func three(t *testing.T) store {
	t.Helper()
	s := begun(sums())
	for _, id := range []int{2, 5, 9} {
		s.saved(t, id, turned(sumsShot(s.ground), func(sh *api.Shot) {
			sh.Parts[1].State = manyCells(id)
		}))
	}
	return s
}

// manyCells gives a state of a fold of which a difference from another one is short.
func manyCells(n int) api.State {
	var s api.State
	for k := range 20 {
		s.Cells = append(s.Cells, api.Cell{Key: fmt.Sprintf("k%02d", k), Vals: []api.Value{{Kind: api.Int, Int: int64(k)}}})
	}
	s.Cells[n].Vals[0].Int = 4711
	return s
}

// TestNewestOfNoShot: an empty disk, other files, and pieces without a manifest.
func TestNewestOfNoShot(t *testing.T) {
	for _, g := range grounds() {
		begun(g).wants(t, "P17.4", nil, "0:")
		begun(g).wants(t, "P17.4", pen.ReadLists("o=1 / o=2"), "0:")
		begun(g, api.File{Name: "out-02", Data: []byte("any")}, api.File{Name: "seg-0007-00"}, api.File{Name: "seg-9999-11", Data: []byte("any")}, api.File{Name: "man-1"}).wants(t, "P17.4", nil, "0:")
	}
}

// TestNewestOfGaps: numbers that were never stored, and ones whose manifest is gone, are passed over without a word.
func TestNewestOfGaps(t *testing.T) {
	s := three(t)
	s.wants(t, "P17.4", enough(), "9:")
	s.put("seg-0200-00", []byte("any"))
	s.wants(t, "P17.4", enough(), "9:")
	s.Remove("man-0009")
	s.wants(t, "P17.4", enough(), "5:")
	s.Remove("man-0002")
	s.wants(t, "P17.4", enough(), "5:")
	s.Remove("man-0005")
	s.wants(t, "P17.4", enough(), "0:")
}

// TestNewestOfPiecesThatAreGone: a segment's file, the shot's own one or one that it is a difference from.
func TestNewestOfPiecesThatAreGone(t *testing.T) {
	for name, want := range map[string]string{
		"seg-0009-00": "5: 9 seg-0009-00 error 122",
		"seg-0009-01": "5: 9 seg-0009-01 error 122",
		"seg-0009-02": "5: 9 seg-0009-02 error 122",
		"seg-0005-01": "2: 9 seg-0005-01 error 122, 5 seg-0005-01 error 122",
		"seg-0002-01": "0: 9 seg-0002-01 error 122, 5 seg-0002-01 error 122, 2 seg-0002-01 error 122",
		"seg-0002-02": "9:",
	} {
		s := three(t)
		s.Remove(name)
		s.wants(t, "P17.4, gone: "+name, enough(), want)
	}
}

// TestNewestOfSpoiltFiles: each bit of each file of the newest shots, and what each was told of.
func TestNewestOfSpoiltFiles(t *testing.T) {
	s := three(t)
	for _, f := range s.Files() {
		want := map[string]string{
			"man-0009":    "5: 9 man-0009 error 123",
			"seg-0009-00": "5: 9 seg-0009-00 error 123",
			"seg-0009-01": "5: 9 seg-0009-01 error 123",
			"seg-0009-02": "5: 9 seg-0009-02 error 123",
			"seg-0005-01": "2: 9 seg-0005-01 error 123, 5 seg-0005-01 error 123",
			"seg-0002-01": "0: 9 seg-0002-01 error 123, 5 seg-0002-01 error 123, 2 seg-0002-01 error 123",
		}[f.Name]
		if want == "" {
			want = "9:"
		}
		for bit := range 8 * len(f.Data) {
			if bit%5 != 0 && len(f.Data) > 60 {
				continue
			}
			s.Spoil(f.Name, bit)
			if s.wants(t, "P17.4, spoilt", enough(), want); t.Failed() {
				t.Fatalf("bit %d of %s was turned", bit, f.Name)
			}
			s.Spoil(f.Name, bit)
		}
	}
	s.wants(t, "P17.4", enough(), "9:")
}

// framed gives a frame around a body.
func framed(body []byte, e api.Errno) []byte {
	data, f := frame.Wrap(body)
	if e != api.OK || f != api.OK {
		panic(fmt.Sprint("no file: errors ", int(e), " and ", int(f)))
	}
	return data
}

// bodies gives the manifest of a stored shot and its segments, as they stand on the disk.
func (s store) bodies(t *testing.T, id int) (api.Manifest, []api.Segment) {
	t.Helper()
	body := func(name string) []byte {
		data, e := s.Read(name)
		body, f := frame.Exact(data)
		if e != api.OK || f != api.OK {
			t.Fatalf("%s can't be read", name)
		}
		return body
	}
	m, _ := wire.GetManifest(body(fmt.Sprintf("man-%04d", id)))
	var all []api.Segment
	for task := range m.Rows {
		g, _ := wire.GetSegment(body(fmt.Sprintf("seg-%04d-%02d", id, task)))
		all = append(all, g)
	}
	return m, all
}

// forge writes the files of a shot anew, with something changed in them; all sums are right.
func (s store) forge(t *testing.T, id int, turn func(m *api.Manifest, all []api.Segment)) {
	t.Helper()
	m, all := s.bodies(t, id)
	rows := len(m.Rows)
	turn(&m, all)
	for task, g := range all {
		body, e := wire.PutSegment(g)
		data := framed(body, e)
		s.put(fmt.Sprintf("seg-%04d-%02d", id, task), data)
		if len(m.Rows) == rows {
			m.Rows[task] = api.Row{Size: len(data), Check: frame.Sum(body)}
		}
	}
	s.put(fmt.Sprintf("man-%04d", id), framed(wire.PutManifest(m)))
}

// TestNewestOfFilesOfAnothers: a manifest or a segment that isn't what its name says, and chains that don't hold.
func TestNewestOfFilesOfAnothers(t *testing.T) {
	s := three(t)
	data, _ := s.Read("man-0005")
	s.put("man-0009", data)
	s.wants(t, "P17.4, another's manifest", enough(), "5: 9 man-0009 error 124")
	s = three(t)
	data, _ = s.Read("seg-0005-00")
	s.put("seg-0009-00", data)
	s.wants(t, "P17.4, another's segment", enough(), "5: 9 seg-0009-00 error 123")
	for want, turn := range map[string]func(m *api.Manifest, all []api.Segment){
		"5: 9 man-0009 error 124":    func(m *api.Manifest, all []api.Segment) { m.Rows = nil },
		"5: 9 seg-0009-01 error 124": func(m *api.Manifest, all []api.Segment) { all[1].Id = 5 },
		"5: 9 seg-0009-02 error 124": func(m *api.Manifest, all []api.Segment) { all[2].Task = 1 },
		"5: 9 seg-0009-01 error 125": func(m *api.Manifest, all []api.Segment) { all[1].Delta.Gone = []string{"nowhere"} },
		"5: 9 seg-0009-01 error 123": func(m *api.Manifest, all []api.Segment) { m.Rows = m.Rows[:2]; all[1].Id = 8 },
		"9:":                         func(m *api.Manifest, all []api.Segment) {},
		"5: 9 sum":                   func(m *api.Manifest, all []api.Segment) { m.Sum++ },
		"5: 9 parts":                 func(m *api.Manifest, all []api.Segment) { m.Rows = m.Rows[:2] },
		"5: 9 state":                 func(m *api.Manifest, all []api.Segment) { all[1].Delta.Num = 1 },
		"5: 9 offset":                func(m *api.Manifest, all []api.Segment) { all[0].State.Num = 4 },
		"5: 9 logs":                  func(m *api.Manifest, all []api.Segment) { all[2].Logs = nil },
		"5: 9 pend":                  func(m *api.Manifest, all []api.Segment) { all[2].Pend = make([]api.Record, 3) },
		"5: 9 outs":                  func(m *api.Manifest, all []api.Segment) { all[2].State.Num = 5 },
	} {
		s := three(t)
		s.forge(t, 9, turn)
		s.wants(t, "P17.4, forged", enough(), want)
	}
	s = three(t)
	s.forge(t, 9, func(m *api.Manifest, all []api.Segment) { all[1].Base = 9 })
	s.wants(t, "P17.4, a chain", enough(), "5: 9 seg-0009-01 error 125")
}

// TestNewestOfShotsThatDontFit: all reasons in one store, from the newest down, with no name of a file.
func TestNewestOfShotsThatDontFit(t *testing.T) {
	g := sums()
	s := begun(g)
	right := sumsShot(g)
	s.saved(t, 1, right)
	s.saved(t, 4, turned(right, func(s *api.Shot) { s.Sum++ }))
	s.saved(t, 5, turned(right, func(s *api.Shot) { s.Parts = s.Parts[:2] }))
	s.saved(t, 6, turned(right, func(s *api.Shot) { s.Parts = append(s.Parts, api.Part{}) }))
	s.saved(t, 7, turned(right, func(s *api.Shot) { s.Parts[1].State.Num = 1 }))
	s.saved(t, 8, turned(right, func(s *api.Shot) { s.Parts[0].State.Num = 4 }))
	s.saved(t, 10, turned(right, func(s *api.Shot) { s.Parts[0].Logs = [][]api.Record{nil} }))
	s.saved(t, 11, turned(right, func(s *api.Shot) { s.Parts[1].Pend = pen.ReadRecords("p=1") }))
	s.saved(t, 12, turned(right, func(s *api.Shot) { s.Parts[2].State.Num = 5 }))
	s.wants(t, "P17.4", enough(), "1: 12 outs, 11 pend, 10 logs, 8 offset, 7 state, 6 parts, 5 parts, 4 sum")
	s.wants(t, "P17.4", pen.ReadLists("o=1 | o=2 | o=3 | o=4"), "12:")
	s.wants(t, "P17.4", nil, "0: 12 outs, 11 pend, 10 logs, 8 offset, 7 state, 6 parts, 5 parts, 4 sum, 1 outs")
	s.Spoil("man-0010", 40)
	s.Remove("seg-0006-02")
	s.Remove("man-0005")
	s.wants(t, "P17.4", enough(), "1: 12 outs, 11 pend, 10 man-0010 error 123, 8 offset, 7 state, 6 seg-0006-02 error 122, 4 sum")
	// Another ground has another sum, whatever else is wrong.
	other := s
	other.tapes = pen.ReadLists("x=1 | x=2 | y=4")
	other.wants(t, "P17.4", enough(), "0: 12 sum, 11 sum, 10 man-0010 error 123, 8 sum, 7 sum, 6 seg-0006-02 error 122, 4 sum, 1 sum")
}

// TestNewestIsTheFirstThatHolds: older ones aren't asked, whatever they are.
func TestNewestIsTheFirstThatHolds(t *testing.T) {
	s := three(t)
	s.Spoil("man-0005", 3)
	s.Remove("seg-0002-00")
	s.wants(t, "P17.4", enough(), "9:")
	s.saved(t, 9999, sumsShot(s.ground))
	s.wants(t, "P17.4", enough(), "9999:")
	s.Spoil("seg-9999-02", 70)
	s.wants(t, "P17.4", enough(), "9: 9999 seg-9999-02 error 123")
	if s.Next() != 10000 {
		t.Errorf("P12.6: Next is %d", s.Next())
	}
}

// TestNewestOfAMachineThatIsDown: at the beginning; when it comes up again, all is as before.
func TestNewestOfAMachineThatIsDown(t *testing.T) {
	for _, s := range []store{begun(sums()), three(t)} {
		want, _ := heal.Newest(s.Vault, s.plan, s.sh, s.tapes, enough())
		s.Crash()
		s.wants(t, "P17.5", enough(), "error 100: 0")
		got, e := heal.Newest(s.Vault, s.plan, s.sh, s.tapes, enough())
		if e != api.ErrDiskDown || !sameFound(got, api.Found{}) {
			t.Errorf("P17.5: of a machine that is down Newest answers %s, %s, error %d", shotTold(got.Shot), pen.TellConfig(got.Config), e)
		}
		s.Restart(nil)
		if got, e := heal.Newest(s.Vault, s.plan, s.sh, s.tapes, enough()); e != api.OK || !sameFound(got, want) {
			t.Errorf("P17.4: behind a fall Newest answers %s, want %s", foundTold(got, e), foundTold(want, api.OK))
		}
	}
}

// TestNewestOfRigs: calls that would fail, and a machine that would fall, have no bearing: nothing is changed.
func TestNewestOfRigs(t *testing.T) {
	s := three(t)
	s.Fail(0, 5)
	s.wants(t, "P17.4", enough(), "9:")
	s = three(t)
	s.Arm(0)
	s.wants(t, "P17.4", enough(), "9:")
	if e := s.Sync("man-0009"); e != api.ErrDiskDown {
		t.Errorf("P10: the machine doesn't fall: error %d", e)
	}
	s.wants(t, "P17.5", enough(), "error 100: 0")
}

// tamper lets something happen to a file of a store, and names it.
func (w *writer) tamper(t *testing.T, s store) string {
	files := s.Files()
	if len(files) == 0 {
		return "nothing"
	}
	f, g := files[w.Below(len(files))], files[w.Below(len(files))]
	switch w.Below(8) {
	case 0:
		s.Remove(f.Name)
		return "a file is gone"
	case 1:
		s.Trim(f.Name, w.Below(len(f.Data)+1))
		return "a file is cut"
	case 2:
		s.put(f.Name, g.Data)
		return "a file is another's"
	case 3:
		s.put(fmt.Sprintf("seg-%04d-%02d", w.Between(1, 40), w.Below(12)), f.Data)
		return "a file is another's"
	case 4:
		id := s.Next() - 1
		if _, err := s.Load(id); err == nil {
			s.forge(t, id, func(m *api.Manifest, all []api.Segment) {
				k := w.Below(len(all))
				switch {
				case w.Below(3) == 0:
					all[k].Id = w.Between(1, 30)
				case all[k].Base > 0 && w.Below(2) == 0:
					all[k].Base = min(all[k].Id+w.Below(2), 9999)
				case all[k].Base > 0:
					all[k].Delta.Gone = []string{"nowhere"}
				default:
					m.Id++
				}
			})
			return "a file is forged"
		}
	}
	s.Spoil(f.Name, w.Below(8*len(f.Data)+1))
	return "a file is spoilt"
}

// unlike gives a ground that is another one than this one by a record, or by the plan's bound.
func unlike(g ground) ground {
	g.tapes = slices.Clone(g.tapes)
	for k, tape := range g.tapes {
		if len(tape) > 0 {
			g.tapes[k] = append(slices.Clone(tape[:len(tape)-1]), api.Record{Key: "unlike"})
			return g
		}
	}
	g.plan.Cap = g.plan.Cap%api.MaxCap + 1
	return g
}

// TestDrawnStores: right shots and wrong ones, gaps, files that are gone, spoilt, cut, another's and forged, and outputs that are enough or not.
func TestDrawnStores(t *testing.T) {
	met := map[string]int{}
	for seed := range 2500 {
		w := seeded(seed)
		s := begun(w.ground())
		id := 0
		var newest api.Shot
		for range w.Below(7) {
			id = min(id+pen.One(w.Pen, 1, 1, 1, 2, 5), 9999)
			shot := turned(w.shot(s.ground, id), func(*api.Shot) {})
			if len(newest.Parts) == len(shot.Parts) && w.Below(3) > 0 {
				// What hardly differs from the shot ahead of it is stored as a difference.
				for k, t := range s.plan.Tasks {
					if t.Kind != api.Source && t.Kind != api.Sink {
						shot.Parts[k].State = newest.Parts[k].State
					}
				}
			}
			switch w.Below(5) {
			case 0, 1:
				met[w.spoil(s.ground, &shot)]++
			case 2:
				shot.Sum = modelSum(unlike(s.ground).plan, unlike(s.ground).tapes)
			}
			if err := s.Save(shot); err == nil {
				newest = shot
			}
		}
		for range pen.One(w.Pen, 0, 0, 1, 2, 5) {
			met[w.tamper(t, s)]++
		}
		for range 2 {
			outs := w.outs(s.ground, newest)
			got, e, why := s.newestFault(outs)
			if why != "" {
				t.Fatalf("seed %d: %v: %s", seed, s.ground, why)
			}
			met[fmt.Sprint("found: ", got.Id > 0, ", passed over: ", min(len(got.Lost), 2), ", error ", int(e))]++
			for _, l := range got.Lost {
				name, _, _ := strings.Cut(l.Name, "-")
				met[strings.TrimSpace(name+" "+errorTold(l.Err.(api.Errno)))]++
			}
		}
	}
	wantCases(t, met, 25, "sum", "parts", "state", "offset", "logs", "pend", "outs", "man error 123", "man error 124", "seg error 122", "seg error 123")
	wantCases(t, met, 5, "seg error 124", "seg error 125")
	wantCases(t, met, 100, "a file is gone", "a file is cut", "a file is another's", "a file is spoilt", "found: true, passed over: 0, error 0", "found: true, passed over: 1, error 0", "found: true, passed over: 2, error 0",
		"found: false, passed over: 0, error 0", "found: false, passed over: 1, error 0", "found: false, passed over: 2, error 0")
	for told := range met {
		if strings.HasPrefix(told, "man error 122") {
			t.Errorf("P17.4: a manifest that is gone is told of: %s", told)
		}
	}
}
