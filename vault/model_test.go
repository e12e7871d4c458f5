package vault_test

import (
	"bytes"
	"hash/crc32"
	"regexp"
	"slices"
	"strconv"

	"eddy/api"
	"eddy/delta"
	"eddy/disk"
	"eddy/wire"
)

// A model is a second reading of the chapter: what lies on the disk is taken as a map, a chain is gone down by recursion and up on the way back, and an error is thrown.
type model struct {
	*disk.Disk
}

var (
	manForm = regexp.MustCompile(`\Aman-([0-9]{4})\z`)
	segForm = regexp.MustCompile(`\Aseg-([0-9]{4})-(0[0-9]|1[01])\z`)
)

// numberIn gives the shot's number in a name of P12.1; 0, if it is no such name.
func numberIn(name string) int {
	for _, form := range []*regexp.Regexp{manForm, segForm} {
		if found := form.FindStringSubmatch(name); found != nil {
			n, _ := strconv.Atoi(found[1])
			return n
		}
	}
	return 0
}

// unframed gives the body of bytes that are one frame: those that the frame of what stands in their middle has.
func unframed(file []byte) ([]byte, bool) {
	if len(file) < 8 || len(file) > 32776 {
		return nil, false
	}
	body := file[4 : len(file)-4]
	return body, bytes.Equal(file, frameOf(body))
}

func (m model) down() bool {
	_, e := m.List()
	return e == api.ErrDiskDown
}

func (m model) lies() map[string]api.File {
	all := map[string]api.File{}
	for _, f := range m.Files() {
		all[f.Name] = f
	}
	return all
}

// A modelShot is a shot, by task the sum of its own segment's body and the number of differences in the chain, and all files that were read.
type modelShot struct {
	shot        api.Shot
	sums        []uint32
	differences []int
	files       []api.File
}

// A reading is a Load on its way; it throws what it must answer.
type reading struct {
	modelShot
	lies map[string]api.File
	down bool
}

func (r *reading) throw(name string, e api.Errno) {
	panic(&api.Lost{Id: r.shot.Id, Name: name, Err: e})
}

// caught gives what a function threw.
func caught(do func()) (lost *api.Lost) {
	defer func() {
		if x := recover(); x != nil {
			lost = x.(*api.Lost)
		}
	}()
	do()
	return nil
}

func (m model) read(id int) (modelShot, *api.Lost) { return m.readOf(m.lies(), id) }

func (m model) readOf(lies map[string]api.File, id int) (modelShot, *api.Lost) {
	r := &reading{modelShot{shot: api.Shot{Id: id}}, lies, m.down()}
	if lost := caught(r.whole); lost != nil {
		return modelShot{}, lost
	}
	return r.modelShot, nil
}

func (r *reading) bodyOf(name string) []byte {
	f, there := r.lies[name]
	if !there {
		r.throw(name, api.ErrVaultGone)
	}
	body, whole := unframed(f.Data)
	if !whole {
		r.throw(name, api.ErrVaultTorn)
	}
	r.files = append(r.files, f)
	return body
}

func (r *reading) whole() {
	id := r.shot.Id
	if id < 1 || id > 9999 {
		r.throw("", api.ErrVaultId)
	}
	if r.down {
		r.throw(man(id), api.ErrDiskDown)
	}
	m, e := wire.GetManifest(r.bodyOf(man(id)))
	if e != api.OK || m.Id != id || len(m.Rows) == 0 {
		r.throw(man(id), api.ErrVaultForm)
	}
	r.shot.Sum = m.Sum
	for task, row := range m.Rows {
		state, s, sum, count := r.stand(id, task, 0, func(body []byte) bool {
			return len(body)+8 == row.Size && crc32.ChecksumIEEE(body) == row.Check
		})
		r.shot.Parts = append(r.shot.Parts, api.Part{State: state, Logs: s.Logs, Pend: s.Pend})
		r.sums, r.differences = append(r.sums, sum), append(r.differences, count)
	}
}

// stand gives the state that a segment stands for, the segment, the sum of its body, and how many differences its chain has. above: how many differences stand above it.
func (r *reading) stand(id, task, above int, meant func(body []byte) bool) (api.State, api.Segment, uint32, int) {
	name := seg(id, task)
	body := r.bodyOf(name)
	if !meant(body) {
		r.throw(name, api.ErrVaultTorn)
	}
	s, e := wire.GetSegment(body)
	if e != api.OK || s.Id != id || s.Task != task {
		r.throw(name, api.ErrVaultForm)
	}
	sum := crc32.ChecksumIEEE(body)
	if s.Base == 0 {
		return s.State, s, sum, 0
	}
	if s.Base >= id || above == 4 {
		r.throw(name, api.ErrVaultChain)
	}
	below, _, _, count := r.stand(s.Base, task, above+1, func(body []byte) bool { return crc32.ChecksumIEEE(body) == s.BaseSum })
	state, e := delta.Apply(below, s.Delta)
	if e != api.OK {
		r.throw(name, api.ErrVaultChain)
	}
	return state, s, sum, count + 1
}

func (m model) Load(id int) (api.Shot, error) {
	s, lost := m.read(id)
	return s.shot, thrown(lost)
}

func thrown(lost *api.Lost) error {
	if lost == nil {
		return nil
	}
	return lost
}

// complete gives the complete shots, rising.
func (m model) complete() []modelShot {
	var all []modelShot
	lies := m.lies()
	for name := range lies {
		if !manForm.MatchString(name) {
			continue
		}
		if s, lost := m.readOf(lies, numberIn(name)); lost == nil {
			all = append(all, s)
		}
	}
	slices.SortFunc(all, func(a, b modelShot) int { return a.shot.Id - b.shot.Id })
	return all
}

func (m model) Ids() []int {
	var all []int
	for _, s := range m.complete() {
		all = append(all, s.shot.Id)
	}
	return all
}

func (m model) Next() int {
	if m.down() {
		return 0
	}
	greatest := 0
	for name := range m.lies() {
		greatest = max(greatest, numberIn(name))
	}
	return greatest + 1
}

// sure gives the sure shots, rising.
func (m model) sure() []modelShot {
	return slices.DeleteFunc(m.complete(), func(s modelShot) bool {
		return slices.ContainsFunc(s.files, func(f api.File) bool { return f.Synced != len(f.Data) })
	})
}

// A change is a changing call of the disk that a vault must make.
type change struct {
	what, name string
	data       []byte
}

func (m model) makes(id int, all []change) error {
	for _, c := range all {
		var e api.Errno
		switch c.what {
		case "append":
			e = m.Append(c.name, c.data)
		case "sync":
			e = m.Sync(c.name)
		case "remove":
			e = m.Remove(c.name)
		}
		if e != api.OK {
			return &api.Lost{Id: id, Name: c.name, Err: e}
		}
	}
	return nil
}

func (m model) Prune() error {
	if m.down() {
		return &api.Lost{Err: api.ErrDiskDown}
	}
	needed := map[string]bool{}
	sure := m.sure()
	for _, s := range sure[max(0, len(sure)-2):] {
		for _, f := range s.files {
			needed[f.Name] = true
		}
	}
	var all []change
	for _, f := range m.Files() {
		if numberIn(f.Name) > 0 && !needed[f.Name] {
			all = append(all, change{what: "remove", name: f.Name})
		}
	}
	return m.makes(0, all)
}

func (m model) Save(s api.Shot) error {
	var all []change
	if lost := caught(func() { all = m.changes(s) }); lost != nil {
		return lost
	}
	return m.makes(s.Id, all)
}

// changes gives what a Save must do; it throws what it must answer else.
func (m model) changes(s api.Shot) []change {
	r := &reading{modelShot: modelShot{shot: api.Shot{Id: s.Id}}}
	next := m.Next()
	switch {
	case m.down():
		r.throw("", api.ErrDiskDown)
	case s.Id < next || s.Id > 9999:
		r.throw("", api.ErrVaultId)
	case len(s.Parts) < 1 || len(s.Parts) > 12:
		r.throw("", api.ErrVaultPart)
	}
	sure := m.sure()
	var all []change
	last := api.Manifest{Id: s.Id, Sum: s.Sum}
	for task, p := range s.Parts {
		full := api.Segment{Id: s.Id, Task: task, State: p.State, Logs: p.Logs, Pend: p.Pend}
		body, e := wire.PutSegment(full)
		if e != api.OK {
			r.throw(seg(s.Id, task), e)
		}
		if len(sure) > 0 {
			body = shorter(body, sure[len(sure)-1], full)
		}
		if len(body) > 32768 {
			r.throw(seg(s.Id, task), api.ErrFrameBody)
		}
		last.Rows = append(last.Rows, api.Row{Size: len(body) + 8, Check: crc32.ChecksumIEEE(body)})
		all = append(all, change{"append", seg(s.Id, task), frameOf(body)}, change{what: "sync", name: seg(s.Id, task)})
	}
	return append(all, change{"append", man(s.Id), frameOf(manifestBody(last))}, change{what: "sync", name: man(s.Id)})
}

// shorter gives the body of a segment as a difference from b, if it can be one and that is shorter; else the full one. (A full one that can't be framed is longer than each that can.)
func shorter(body []byte, b modelShot, full api.Segment) []byte {
	if full.Task >= len(b.shot.Parts) || b.differences[full.Task] >= 4 {
		return body
	}
	d, e := delta.Diff(b.shot.Parts[full.Task].State, full.State)
	if e != api.OK {
		return body
	}
	less, e := wire.PutSegment(api.Segment{Id: full.Id, Task: full.Task, Base: b.shot.Id, BaseSum: b.sums[full.Task], Delta: d, Logs: full.Logs, Pend: full.Pend})
	if e != api.OK || len(less) > 32768 || len(less) >= len(body) {
		return body
	}
	return less
}
