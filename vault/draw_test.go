package vault_test

import (
	"fmt"
	"hash/crc32"
	"math"
	"slices"
	"strings"
	"testing"

	"eddy/api"
	"eddy/disk"
	"eddy/equal"
	"eddy/pen"
	"eddy/vault"
	"eddy/wire"
)

// A drawer draws shots whose states are much like those of the shots ahead of them.
type drawer struct {
	*pen.Pen
	states []api.State
}

func seeded(seed int) *drawer {
	d := &drawer{Pen: pen.Seeded(seed)}
	d.states = make([]api.State, pen.One(d.Pen, 1, 1, 2, 3, 4))
	for k := range d.states {
		for range d.Below(12) {
			d.states[k] = d.near(d.states[k])
		}
	}
	return d
}

// near changes a state at one place: its number, or a cell that comes, goes or becomes another one.
func (d *drawer) near(s api.State) api.State {
	all := api.State{Num: s.Num, Cells: slices.Clone(s.Cells)}
	if d.Below(4) == 0 {
		all.Num = pen.One(d.Pen, 0, all.Num+1, api.MaxNum)
		all.Num = min(all.Num, api.MaxNum)
		return all
	}
	c := api.Cell{Key: d.Key(20), Vals: []api.Value{d.Value(), num(int64(d.Below(3)))}[:d.Below(3)]}
	place, there := slices.BinarySearchFunc(all.Cells, c.Key, func(x api.Cell, key string) int { return strings.Compare(x.Key, key) })
	switch {
	case !there:
		all.Cells = slices.Insert(all.Cells, place, c)
	case d.Below(3) == 0:
		all.Cells = slices.Delete(all.Cells, place, place+1)
	default:
		all.Cells[place] = c
	}
	return all
}

// part draws a part; a state stays as it is, or changes a little, or, seldom, is quite another one.
func (d *drawer) part(state api.State) api.Part {
	p := api.Part{State: state}
	for range pen.One(d.Pen, 0, 1, 2, 4) {
		p.Logs = append(p.Logs, d.Records(d.Below(3), 2))
	}
	p.Pend = d.Records(pen.One(d.Pen, 0, 0, 1, 3), 1)
	return p
}

// shot draws a valid shot.
func (d *drawer) shot(id int) api.Shot {
	if d.Below(10) == 0 {
		d.states = d.states[:d.Between(1, len(d.states))]
	}
	if d.Below(10) == 0 && len(d.states) < 12 {
		d.states = append(d.states, d.near(api.State{}))
	}
	s := api.Shot{Id: id, Sum: uint32(d.Below(math.MaxUint32))}
	for k := range d.states {
		for range d.Below(3) {
			d.states[k] = d.near(d.states[k])
		}
		s.Parts = append(s.Parts, d.part(d.states[k]))
	}
	return s
}

// spoilt changes a shot at one place, so that it may not be saved; at times it is right still.
func (d *drawer) spoilt(s api.Shot) api.Shot {
	p := &s.Parts[d.Below(len(s.Parts))]
	switch d.Below(8) {
	case 0:
		s.Id = pen.One(d.Pen, 0, 1, -1, s.Id-1, 9999, 10000)
	case 1:
		s.Parts = nil
	case 2:
		s.Parts = make([]api.Part, 13)
	case 3:
		p.State.Num = pen.One(d.Pen, -1, api.MaxNum+1)
	case 4:
		p.Logs = make([][]api.Record, 5)
	case 5:
		p.Pend = []api.Record{{Key: "a"}, {Key: "thirteenbytes"}}
	case 6:
		p.Pend = long(200)
	case 7:
		p.State.Cells = []api.Cell{{Key: "b"}, {Key: "a"}}
	}
	return s
}

// A keeper is a vault, or the model of one.
type keeper interface {
	Next() int
	Ids() []int
	Save(s api.Shot) error
	Load(id int) (api.Shot, error)
	Prune() error
}

// A side is a keeper over a disk of its own.
type side struct {
	*disk.Disk
	keeper
}

// An answer is what a call of a keeper answers.
type answer struct {
	shot api.Shot
	ids  []int
	next int
	err  error
}

func sameAnswer(got, want answer) bool {
	if !equal.Shot(got.shot, want.shot) || !slices.Equal(got.ids, want.ids) || got.next != want.next {
		return false
	}
	lost, is := want.err.(*api.Lost)
	return !is && got.err == nil || is && tells(got.err, *lost)
}

// A step is a call of the keeper, or something that happens to the disk.
type step struct {
	what string
	do   func(s side) answer
}

func happens(what string, do func(s side)) step {
	return step{what, func(s side) answer { do(s); return answer{} }}
}

func saveOf(one api.Shot) step {
	return step{fmt.Sprint("Save of ", one.Id), func(s side) answer { return answer{err: s.Save(one)} }}
}

func loadOf(id int) step {
	return step{fmt.Sprint("Load of ", id), func(s side) answer {
		var a answer
		a.shot, a.err = s.Load(id)
		return a
	}}
}

// looks draws calls that change nothing.
func (d *drawer) looks(files []api.File) []step {
	all := []step{
		{"Next", func(s side) answer { return answer{next: s.Next()} }},
		{"Ids", func(s side) answer { return answer{ids: s.Ids()} }},
		loadOf(pen.One(d.Pen, 0, 1, 10000, -1)),
	}
	for _, f := range files {
		if manForm.MatchString(f.Name) && d.Below(3) == 0 {
			all = append(all, loadOf(numberIn(f.Name)))
		}
	}
	return all
}

// step draws a step for a disk that holds these files and whose next number is told.
func (d *drawer) step(files []api.File, next int) step {
	id := min(next+pen.One(d.Pen, 0, 0, 0, 0, 1, 100), 9999)
	switch d.Below(24) {
	case 0, 1:
		return step{"Prune", func(s side) answer { return answer{err: s.Prune()} }}
	case 2:
		units := d.Below(400)
		return happens(fmt.Sprint("Arm ", units), func(s side) { s.Arm(units) })
	case 3, 4:
		after, calls := d.Below(8), d.Between(1, 2)
		return happens(fmt.Sprint("Fail ", after, calls), func(s side) { s.Fail(after, calls) })
	case 5:
		return happens("Crash", func(s side) { s.Crash() })
	case 6, 7, 8:
		keep := []int{d.Below(60), d.Below(200), 0, 1 << 20}[:d.Below(5)]
		return happens(fmt.Sprint("Restart ", keep), func(s side) { s.Restart(keep) })
	case 9, 10:
		return saveOf(d.spoilt(d.shot(id)))
	case 11, 12, 13, 14:
		if len(files) > 0 {
			return d.tampered(files)
		}
	}
	return saveOf(d.shot(id))
}

// tampered draws something that someone else does to a file.
func (d *drawer) tampered(files []api.File) step {
	f, g := files[d.Below(len(files))], files[d.Below(len(files))]
	switch d.Below(10) {
	case 0:
		return happens("Remove "+f.Name, func(s side) { s.Remove(f.Name) })
	case 1:
		size := d.Below(len(f.Data) + 1)
		return happens(fmt.Sprint("Trim ", f.Name, size), func(s side) { s.Trim(f.Name, size) })
	case 2:
		return happens("a byte more in "+f.Name, func(s side) { s.Append(f.Name, []byte{0}) })
	case 3:
		bit := d.Below(8 * max(1, len(f.Data)))
		return happens(fmt.Sprint("Spoil ", f.Name, bit), func(s side) { s.Spoil(f.Name, bit) })
	case 4:
		return happens(f.Name+" in the place of "+g.Name, func(s side) { put(s, g.Name, f.Data) })
	}
	return d.forged(files)
}

// put lays bytes in the place of a file, and makes them sure.
func put(s side, name string, data []byte) {
	s.Remove(name)
	s.Append(name, data)
	s.Sync(name)
}

// forged draws a segment that says something else, and a manifest that fits it: all sums are right.
func (d *drawer) forged(files []api.File) step {
	f := files[d.Below(len(files))]
	id := numberIn(f.Name)
	lies := map[string][]byte{}
	for _, g := range files {
		lies[g.Name] = g.Data
	}
	body, _ := unframed(lies[man(id)])
	m, e := wire.GetManifest(body)
	if e != api.OK || len(m.Rows) == 0 {
		return happens("nothing", func(side) {})
	}
	task := d.Below(len(m.Rows))
	body, _ = unframed(lies[seg(id, task)])
	g, e := wire.GetSegment(body)
	if e != api.OK {
		return happens("nothing", func(side) {})
	}
	what := d.forge(&m, &g)
	body = segmentBody(g)
	if len(m.Rows) > task {
		m.Rows[task] = api.Row{Size: len(body) + 8, Check: crc32.ChecksumIEEE(body)}
	}
	return happens(fmt.Sprint(seg(id, task), " has ", what), func(s side) {
		put(s, seg(id, task), frameOf(body))
		put(s, man(id), frameOf(manifestBody(m)))
	})
}

func (d *drawer) forge(m *api.Manifest, g *api.Segment) string {
	if g.Base > 0 {
		switch d.Below(5) {
		case 0:
			g.Base = pen.One(d.Pen, g.Id, min(g.Id+1, 9999), 9999)
			return "a base that isn't below it"
		case 1:
			g.Delta.Gone = []string{"nowhere"}
			return "a key that isn't there"
		case 2:
			g.Base = d.Between(1, g.Base)
			return "another base"
		}
	}
	switch d.Below(5) {
	case 0:
		g.Id = d.Between(1, 9999)
		return "another number"
	case 1:
		g.Task = d.Below(12)
		return "another task"
	case 2:
		m.Id = d.Below(10000)
		return "another manifest's number"
	case 3:
		m.Rows = nil
		return "no rows"
	}
	g.Pend = d.Records(2, 1)
	return "another output"
}

// metIn counts what comes about in drawn scripts.
type metIn struct {
	errors map[string]int
	bases  map[bool]int
}

// twins plays a drawn script with a vault and with the model, and holds them against each other behind each step.
func twins(t *testing.T, seed, steps int, met metIn) {
	t.Helper()
	d := seeded(seed)
	a, b := begun(t), begun(t)
	one, other := side{a.Disk, a.Vault}, side{b.Disk, model{b.Disk}}
	var script []string
	plays := func(x step) {
		// Two vaults over one disk are the same.
		if d.Below(3) == 0 {
			one.keeper = vault.Open(one.Disk)
		}
		got, want := x.do(one), x.do(other)
		if !sameAnswer(got, want) {
			t.Fatalf("P12.4 to P12.10: seed %d: %q: %s over %s answers %+v, want %+v", seed, script, x.what, told(other.Files()), got, want)
		}
		if l, is := want.err.(*api.Lost); is {
			met.errors[fmt.Sprint(strings.Fields(x.what)[0], int(l.Err.(api.Errno)))]++
		}
	}
	for range steps {
		next := d.step(one.Files(), model{one.Disk}.Next())
		script = append(script, next.what)
		plays(next)
		files := one.Files()
		if !sameFiles(files, other.Files()) {
			t.Fatalf("P12.7 to P12.10: seed %d: %q: the files are %s, want %s", seed, script, told(files), told(other.Files()))
		}
		for _, x := range d.looks(files) {
			plays(x)
		}
		if !sameFiles(one.Files(), files) {
			t.Fatalf("P12.4, P12.6: seed %d: %q: calls that only look change the files to %s", seed, script, told(one.Files()))
		}
	}
	for _, f := range one.Files() {
		if body, whole := unframed(f.Data); whole && segForm.MatchString(f.Name) {
			if g, e := wire.GetSegment(body); e == api.OK {
				met.bases[g.Base > 0]++
			}
		}
	}
}

// TestDrawnScripts: shots that are saved, loaded and pruned while the machine falls, calls fail and files are tampered with, as the model says; and all errors are met.
func TestDrawnScripts(t *testing.T) {
	met := metIn{map[string]int{}, map[bool]int{}}
	for seed := range 200 {
		twins(t, seed, 40, met)
	}
	for _, e := range []api.Errno{api.ErrVaultId, api.ErrVaultGone, api.ErrVaultTorn, api.ErrVaultForm, api.ErrVaultChain, api.ErrDiskDown} {
		if met.errors[fmt.Sprint("Load", int(e))] < 50 {
			t.Errorf("Load answers error %d too seldom: %v", e, met.errors)
		}
	}
	for _, e := range []api.Errno{api.ErrVaultId, api.ErrVaultPart, api.ErrValNum, api.ErrValKey, api.ErrValCells, api.ErrWireBound, api.ErrFrameBody, api.ErrDiskDown, api.ErrDiskIO} {
		if met.errors[fmt.Sprint("Save", int(e))] < 20 {
			t.Errorf("Save answers error %d too seldom: %v", e, met.errors)
		}
	}
	for _, e := range []api.Errno{api.ErrDiskDown, api.ErrDiskIO} {
		if met.errors[fmt.Sprint("Prune", int(e))] < 20 {
			t.Errorf("Prune answers error %d too seldom: %v", e, met.errors)
		}
	}
	if met.bases[false] < 500 || met.bases[true] < 500 {
		t.Errorf("segments with a base: %v", met.bases)
	}
}
