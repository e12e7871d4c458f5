package vault

import (
	"slices"

	"eddy/api"
	"eddy/delta"
	"eddy/frame"
	"eddy/wire"
)

// stored: a complete shot, with what the chains of its segments are like and the names of all files that were read for it.
type stored struct {
	shot   api.Shot
	chains [][]link
	files  []string
}

// link: a segment of a chain, its file's name, and the sum of its body.
type link struct {
	segment api.Segment
	name    string
	sum     uint32
}

// read reads a shot and all that its manifest names.
func (v *Vault) read(id int) (stored, error) {
	if id < 1 || id > api.MaxId {
		return stored{}, api.ErrVaultId
	}
	m, err := v.manifest(id)
	if err != nil {
		return stored{}, err
	}
	all := stored{shot: api.Shot{Id: id, Sum: m.Sum}, files: []string{manifestName(id)}}
	for task, row := range m.Rows {
		chain, err := v.chain(id, task, row)
		if err != nil {
			return stored{}, err
		}
		state, err := stateOf(chain)
		if err != nil {
			return stored{}, err
		}
		all.add(chain, state)
	}
	return all, nil
}

// add lays a part to the shot: the state that its chain leads to, the rest out of its own segment.
func (s *stored) add(chain []link, state api.State) {
	own := chain[0].segment
	s.shot.Parts = append(s.shot.Parts, api.Part{State: state, Logs: own.Logs, Pend: own.Pend})
	s.chains = append(s.chains, chain)
	for _, l := range chain {
		s.files = append(s.files, l.name)
	}
}

// body reads a file that must be one frame, and tells what a manifest would say of it.
func (v *Vault) body(name string) ([]byte, api.Row, error) {
	file, e := v.disk.Read(name)
	if e == api.ErrDiskNone {
		return nil, api.Row{}, &fault{name, api.ErrVaultGone}
	}
	if e != api.OK {
		return nil, api.Row{}, &fault{name, e}
	}
	body, e := frame.Exact(file)
	if e != api.OK {
		return nil, api.Row{}, &fault{name, api.ErrVaultTorn}
	}
	return body, rowOf(file, body), nil
}

func rowOf(file, body []byte) api.Row { return api.Row{Size: len(file), Check: frame.Sum(body)} }

func (v *Vault) manifest(id int) (api.Manifest, error) {
	name := manifestName(id)
	body, _, err := v.body(name)
	if err != nil {
		return api.Manifest{}, err
	}
	m, e := wire.GetManifest(body)
	if e != api.OK || m.Id != id || len(m.Rows) == 0 {
		return api.Manifest{}, &fault{name, api.ErrVaultForm}
	}
	return m, nil
}

// chain reads down from a shot's own segment, of which the manifest has a row, to the full one. All but the last are differences.
func (v *Vault) chain(id, task int, row api.Row) ([]link, error) {
	var all []link
	whole := func(r api.Row) bool { return r == row }
	for {
		l, err := v.link(id, task, whole)
		if err != nil {
			return nil, err
		}
		all = append(all, l)
		s := l.segment
		if s.Base == 0 {
			return all, nil
		}
		if s.Base >= s.Id || len(all) > api.MaxChain {
			return nil, &fault{l.name, api.ErrVaultChain}
		}
		id, whole = s.Base, func(r api.Row) bool { return r.Check == s.BaseSum }
	}
}

// link reads a segment; whole tells whether the file is the one that is meant.
func (v *Vault) link(id, task int, whole func(api.Row) bool) (link, error) {
	name := segmentName(id, task)
	body, row, err := v.body(name)
	if err != nil {
		return link{}, err
	}
	if !whole(row) {
		return link{}, &fault{name, api.ErrVaultTorn}
	}
	s, e := wire.GetSegment(body)
	if e != api.OK || s.Id != id || s.Task != task {
		return link{}, &fault{name, api.ErrVaultForm}
	}
	return link{segment: s, name: name, sum: row.Check}, nil
}

// stateOf goes up a chain, from the state of the full segment on.
func stateOf(chain []link) (api.State, error) {
	last := len(chain) - 1
	state := chain[last].segment.State
	for _, l := range slices.Backward(chain[:last]) {
		var e api.Errno
		if state, e = delta.Apply(state, l.segment.Delta); e != api.OK {
			return api.State{}, &fault{l.name, api.ErrVaultChain}
		}
	}
	return state, nil
}
