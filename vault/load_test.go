package vault_test

import (
	"fmt"
	"hash/crc32"
	"math"
	"slices"
	"testing"

	"eddy/api"
	"eddy/pen"
)

// A row is a segment of a draft, and what is wrong with it. Its sum is told rightly by the manifest or by the segment above it, unless this is what is wrong.
type row struct {
	api.Segment
	name                         string
	raw                          []byte // in the place of the segment's bytes
	gone, cut, more, size, check bool
	turned                       int // a bit of the frame, from 1 on
}

func (r *row) body() []byte {
	if r.raw != nil {
		return r.raw
	}
	return segmentBody(r.Segment)
}

func (r *row) told() uint32 {
	sum := crc32.ChecksumIEEE(r.body())
	if r.check {
		sum ^= 1 << 31
	}
	return sum
}

// framed gives the bytes of a file, and whether there is one.
func (r *row) framed(body []byte) ([]byte, bool) {
	b := frameOf(body)
	if r.cut {
		b = b[:len(b)-1]
	}
	if r.more {
		b = append(b, 0)
	}
	if r.turned > 0 {
		b[(r.turned-1)/8] ^= 1 << ((r.turned - 1) % 8)
	}
	return b, !r.gone
}

// A draft is the shot 9 as it is laid on a disk: task 0 has the segments 9 and 7, differences, and 4, a full one; task 1 the segments 9, a difference, and 4; task 2 a full one.
type draft struct {
	man    row
	id     int
	noRows bool
	chains [][]*row // from the shot's own one down
}

func begunDraft() *draft {
	segment := func(id, task, base int, said string) *row {
		s := api.Segment{Id: id, Task: task, Base: base, Logs: pen.ReadLists("a=1 | b=2 / "), Pend: pen.ReadRecords("p=" + fmt.Sprint(id))}
		if base == 0 {
			s.State = pen.ReadState(said)
		} else {
			s.Delta = pen.ReadDelta(said)
		}
		return &row{Segment: s, name: seg(id, task)}
	}
	return &draft{id: 9, man: row{name: "man-0009"}, chains: [][]*row{
		{segment(9, 0, 7, "3; d:[9]; -b"), segment(7, 0, 4, "2; b:[7]; d:[7]; -a"), segment(4, 0, 0, "1; a:[4]; c:[4]")},
		{segment(9, 1, 4, "5; x:[]"), segment(4, 1, 0, "4")},
		{segment(9, 2, 0, "6")},
	}}
}

// want is what the draft's shot is, if nothing is wrong with it.
func (d *draft) want() api.Shot {
	logs, pend := "a=1 | b=2 / ", "p=9"
	return shot(9, part("3; c:[4]; d:[9]", logs, pend), part("5; x:[]", logs, pend), part("6", logs, pend))
}

func (d *draft) files() []api.File {
	var all []api.File
	m := api.Manifest{Id: d.id, Sum: 7}
	lay := func(r *row, body []byte) {
		if b, there := r.framed(body); there {
			all = append(all, sureFile(r.name, b))
		}
	}
	for _, chain := range d.chains {
		for k, r := range slices.Backward(chain) {
			lay(r, r.body())
			if k > 0 {
				chain[k-1].BaseSum = r.told()
			}
		}
		own := api.Row{Size: len(chain[0].body()) + 8, Check: chain[0].told()}
		if chain[0].size {
			own.Size++
		}
		m.Rows = append(m.Rows, own)
	}
	if d.noRows {
		m.Rows = nil
	}
	body := d.man.raw
	if body == nil {
		body = manifestBody(m)
	}
	lay(&d.man, body)
	return all
}

// A blow is something that is wrong with a draft, and the error of it.
type blow struct {
	what string
	deal func(d *draft)
	name string
	err  api.Errno
}

// blowsAt gives all that can be wrong with a segment, in the order of P12.4.
func blowsAt(task, place int) []blow {
	r := begunDraft().chains[task][place]
	all := []blow{}
	add := func(what string, err api.Errno, deal func(r *row)) {
		all = append(all, blow{r.name + " " + what, func(d *draft) { deal(d.chains[task][place]) }, r.name, err})
	}
	add("is gone", api.ErrVaultGone, func(r *row) { r.gone = true })
	add("is cut", api.ErrVaultTorn, func(r *row) { r.cut = true })
	add("has a byte more", api.ErrVaultTorn, func(r *row) { r.more = true })
	add("has a bit turned", api.ErrVaultTorn, func(r *row) { r.turned = 50 })
	if place == 0 {
		add("has another size", api.ErrVaultTorn, func(r *row) { r.size = true })
	}
	add("has another sum", api.ErrVaultTorn, func(r *row) { r.check = true })
	add("is no segment", api.ErrVaultForm, func(r *row) { r.raw = []byte("none") })
	add("has no bytes in its frame", api.ErrVaultForm, func(r *row) { r.raw = []byte{} })
	add("has a byte more in its frame", api.ErrVaultForm, func(r *row) { r.raw = append(segmentBody(begunDraft().chains[task][place].Segment), 0) })
	add("is a manifest", api.ErrVaultForm, func(r *row) { r.raw = manifestBody(api.Manifest{Id: 9}) })
	add("is another shot's", api.ErrVaultForm, func(r *row) { r.Id++ })
	add("is another task's", api.ErrVaultForm, func(r *row) { r.Task++ })
	if r.Base > 0 {
		add("has itself as its base", api.ErrVaultChain, func(r *row) { r.Base = r.Id })
		add("has a base above it", api.ErrVaultChain, func(r *row) { r.Base = r.Id + 1 })
		add("has the last base", api.ErrVaultChain, func(r *row) { r.Base = 9999 })
	}
	return all
}

// blowsUp gives what can be wrong with a difference on the way up.
func blowsUp(task, place int) []blow {
	name := begunDraft().chains[task][place].name
	var all []blow
	add := func(what string, deal func(r *row)) {
		all = append(all, blow{name + " " + what, func(d *draft) { deal(d.chains[task][place]) }, name, api.ErrVaultChain})
	}
	add("takes a key away that isn't there", func(r *row) { r.Delta.Gone = []string{"nowhere"} })
	add("sets a key that it takes away", func(r *row) { r.Delta.Gone = []string{r.Delta.Set[0].Key} })
	add("makes too many cells", func(r *row) { r.Delta.Set, r.Delta.Gone = wide(64, 1).Cells, nil })
	return all
}

// blows gives all that can be wrong with a draft, in the order of P12.4.
func blows() []blow {
	all := []blow{
		{"the manifest is gone", func(d *draft) { d.man.gone = true }, "man-0009", api.ErrVaultGone},
		{"the manifest is cut", func(d *draft) { d.man.cut = true }, "man-0009", api.ErrVaultTorn},
		{"the manifest has a byte more", func(d *draft) { d.man.more = true }, "man-0009", api.ErrVaultTorn},
		{"the manifest has a bit turned", func(d *draft) { d.man.turned = 1 }, "man-0009", api.ErrVaultTorn},
		{"the manifest is none", func(d *draft) { d.man.raw = []byte{77} }, "man-0009", api.ErrVaultForm},
		{"the manifest is a segment", func(d *draft) { d.man.raw = begunDraft().chains[2][0].body() }, "man-0009", api.ErrVaultForm},
		{"the manifest has no bytes in its frame", func(d *draft) { d.man.raw = []byte{} }, "man-0009", api.ErrVaultForm},
		{"the manifest is another shot's", func(d *draft) { d.id = 8 }, "man-0009", api.ErrVaultForm},
		{"the manifest is no shot's", func(d *draft) { d.id = 0 }, "man-0009", api.ErrVaultForm},
		{"the manifest has no rows", func(d *draft) { d.noRows = true }, "man-0009", api.ErrVaultForm},
	}
	down := func(task, places int) {
		for place := range places {
			all = append(all, blowsAt(task, place)...)
		}
	}
	down(0, 3)
	all = append(all, blowsUp(0, 1)...)
	all = append(all, blowsUp(0, 0)...)
	down(1, 2)
	// The full segment of task 1 has no cells: no difference from it makes too many.
	all = append(all, blowsUp(1, 0)[:2]...)
	down(2, 1)
	return all
}

// TestADraftThatIsRight: it loads; else the blows would tell nothing.
func TestADraftThatIsRight(t *testing.T) {
	d := begunDraft()
	s := begun(t, d.files()...)
	s.loads(t, "P12.4", d.want())
	s.has(t, "P12.4", 10, 9)
	s.lacks(t, "P12.4", at(7, "man-0007", api.ErrVaultGone))
}

// TestEachErrorOfLoad: each of them alone.
func TestEachErrorOfLoad(t *testing.T) {
	for _, b := range blows() {
		d := begunDraft()
		b.deal(d)
		s := begun(t, d.files()...)
		s.lacks(t, "P12.4, "+b.what, at(9, b.name, b.err))
		s.has(t, "P12.6, "+b.what, 10)
	}
}

// TestErrorsOfLoadInTheirOrder: each two of them together, of which the first is told. (Where one blow undoes the other, as two kinds of bytes for one file do, they tell the same.)
func TestErrorsOfLoadInTheirOrder(t *testing.T) {
	all := blows()
	for k, first := range all {
		for _, behind := range all[k+1:] {
			for _, order := range [][]blow{{first, behind}, {behind, first}} {
				d := begunDraft()
				for _, b := range order {
					b.deal(d)
				}
				begun(t, d.files()...).lacks(t, "P12.4, "+order[0].what+" and "+order[1].what, at(9, first.name, first.err))
			}
		}
	}
}

// TestLoadWhileTheMachineIsDown: it is told at the manifest, ahead of all that is wrong there and behind a number that may not be.
func TestLoadWhileTheMachineIsDown(t *testing.T) {
	for _, b := range append(blows(), blow{what: "nothing is wrong", deal: func(*draft) {}}) {
		d := begunDraft()
		b.deal(d)
		s := begun(t, d.files()...)
		s.Crash()
		s.lacks(t, "P12.4.2, down, and "+b.what, at(9, "man-0009", api.ErrDiskDown))
		s.has(t, "P12.6", 0)
		s.lacks(t, "P12.4.2", at(3, "man-0003", api.ErrDiskDown))
		s.lacks(t, "P12.4.1", at(0, "", api.ErrVaultId))
		s.lacks(t, "P12.4.1", at(10000, "", api.ErrVaultId))
	}
}

func TestNumbersThatMayNotBe(t *testing.T) {
	s := begun(t, slices.Concat(handmade(shot(1, part("5"))), handmade(shot(9999, part("6"))), []api.File{{Name: "man-0000"}, {Name: "man-10000"}})...)
	for _, id := range []int{0, -1, 10000, 10001, math.MinInt, math.MaxInt} {
		s.lacks(t, "P12.4.1", at(id, "", api.ErrVaultId))
	}
	s.loads(t, "P12.4", shot(1, part("5")))
	s.loads(t, "P12.4", shot(9999, part("6")))
	s.lacks(t, "P12.4.2", at(2, "man-0002", api.ErrVaultGone))
	s.lacks(t, "P12.4.2", at(9998, "man-9998", api.ErrVaultGone))
	s.has(t, "P12.6", 10000, 1, 9999)
}

// chained gives the files of shots 1 to n of one task, of which all but the first are differences from the one ahead of it, and what they stand for.
func chained(n int) ([]api.File, []api.Shot) {
	var files []api.File
	var shots []api.Shot
	below := api.Segment{Id: 1, State: pen.ReadState("1; a:[1]")}
	for id := 1; id <= n; id++ {
		s := below
		if id > 1 {
			s = api.Segment{Id: id, Base: id - 1, BaseSum: crc32.ChecksumIEEE(segmentBody(below)), Delta: pen.ReadDelta(fmt.Sprint(id, "; b:[", id, "]"))}
		}
		body := segmentBody(s)
		m := api.Manifest{Id: id, Sum: 7, Rows: []api.Row{{Size: len(body) + 8, Check: crc32.ChecksumIEEE(body)}}}
		files = append(files, sureFile(seg(id, 0), frameOf(body)), sureFile(man(id), frameOf(manifestBody(m))))
		state := "1; a:[1]"
		if id > 1 {
			state = fmt.Sprint(id, "; a:[1]; b:[", id, "]")
		}
		shots = append(shots, shot(id, part(state)))
		below = s
	}
	return files, shots
}

// TestLongChains: four differences are read, and the fifth one, from above, is one too many, whatever lies below it.
func TestLongChains(t *testing.T) {
	files, shots := chained(9)
	s := begun(t, files...)
	for _, want := range shots[:5] {
		s.loads(t, "P12.4.3", want)
	}
	for id := 6; id <= 9; id++ {
		s.lacks(t, "P12.4.3", at(id, seg(id-4, 0), api.ErrVaultChain))
	}
	s.has(t, "P12.6", 10, 1, 2, 3, 4, 5)
	s.Remove("seg-0001-00")
	s.lacks(t, "P12.4.3", at(5, "seg-0001-00", api.ErrVaultGone))
	s.lacks(t, "P12.4.3", at(6, "seg-0002-00", api.ErrVaultChain))
	s.Spoil("seg-0002-00", 60)
	s.lacks(t, "P12.4.3", at(6, "seg-0002-00", api.ErrVaultTorn))
	s.Remove("seg-0003-00")
	s.lacks(t, "P12.4.3", at(6, "seg-0003-00", api.ErrVaultGone))
	s.lacks(t, "P12.4.3", at(7, "seg-0003-00", api.ErrVaultGone))
	s.lacks(t, "P12.4.3", at(8, "seg-0004-00", api.ErrVaultChain))
	s.has(t, "P12.6", 10)
}

// TestABaseWithoutItsManifest: only the segment of a base is read, so a shot that is long gone can be one.
func TestABaseWithoutItsManifest(t *testing.T) {
	files, shots := chained(5)
	files = slices.DeleteFunc(files, func(f api.File) bool { return f.Name < "man-0005" })
	s := begun(t, files...)
	s.loads(t, "P12.4.3", shots[4])
	s.has(t, "P12.6", 6, 5)
}

// TestAWholeShot: twelve tasks, four logs, all that a segment holds.
func TestAWholeShot(t *testing.T) {
	var parts []api.Part
	for k := range 12 {
		parts = append(parts, part(fmt.Sprint(k, "; a:[", k, "]; b:[[], none, \"t\"]"), "a=1@0@9 | b=[2] / / c=3 / ", "p=1 | q=none"))
	}
	for _, id := range []int{1, 128, 9999} {
		want := api.Shot{Id: id, Sum: math.MaxUint32, Parts: parts}
		s := begun(t, handmade(want)...)
		s.loads(t, "P12.4", want)
		s.has(t, "P12.6", id+1, id)
	}
}

// TestIdsAndNext: files that are torn, that belong to no whole shot or that are no one's business.
func TestIdsAndNext(t *testing.T) {
	begun(t).has(t, "P12.6", 1)
	whole := slices.Concat(handmade(shot(3, part("1"))), handmade(shot(20, part("2"), part("3"))), handmade(shot(100, part("4"))))
	begun(t, whole...).has(t, "P12.6", 101, 3, 20, 100)
	for _, x := range []struct {
		more api.File
		next int
	}{
		{api.File{Name: "man-0101"}, 102},
		{api.File{Name: "seg-0102-11", Data: []byte{1, 2, 3}}, 103},
		{api.File{Name: "man-9999", Data: []byte{1, 2, 3}, Synced: 3}, 10000},
		{api.File{Name: "seg-9999-00"}, 10000},
		{api.File{Name: "seg-9999-12"}, 101},
		{api.File{Name: "man-10000"}, 101},
		{api.File{Name: "seg-0002-05"}, 101},
	} {
		s := begun(t, append(slices.Clone(whole), x.more)...)
		s.has(t, "P12.6, with "+x.more.Name, x.next, 3, 20, 100)
		s.Crash()
		s.has(t, "P12.6, down", 0)
		s.Restart(nil)
		s.has(t, "P12.6, up again", x.next, 3, 20, 100)
	}
	s := begun(t, whole...)
	s.Trim("seg-0020-01", 9)
	s.has(t, "P12.6", 101, 3, 100)
	s.Remove("man-0100")
	s.has(t, "P12.6", 101, 3)
	s.Remove("seg-0100-00")
	s.has(t, "P12.6", 21, 3)
}
