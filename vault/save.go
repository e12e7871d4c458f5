package vault

import (
	"sync"

	"eddy/api"
	"eddy/delta"
	"eddy/frame"
	"eddy/wire"
)

// file: what is to be written, and what the manifest says of it.
type file struct {
	name string
	data []byte
	row  api.Row
}

func (v *Vault) save(s api.Shot) error {
	next := v.Next()
	if next == 0 {
		return api.ErrDiskDown
	}
	if s.Id < next || s.Id > api.MaxId {
		return api.ErrVaultId
	}
	if len(s.Parts) == 0 || len(s.Parts) > api.MaxTasks {
		return api.ErrVaultPart
	}
	files, err := segments(s, v.base())
	if err != nil {
		return err
	}
	last, e := manifest(s, files)
	if e != api.OK {
		return &fault{last.name, e}
	}
	return v.write(append(files, last))
}

// base gives the shot to tell differences from; one without parts, if there is none.
func (v *Vault) base() stored {
	found := v.sure(1)
	if len(found) == 0 {
		return stored{}
	}
	return found[0]
}

// write lays files on the disk, each sure ahead of the next one's first byte.
func (v *Vault) write(files []file) error {
	for _, f := range files {
		if e := v.disk.Append(f.name, f.data); e != api.OK {
			return &fault{f.name, e}
		}
		if e := v.disk.Sync(f.name); e != api.OK {
			return &fault{f.name, e}
		}
	}
	return nil
}

// manifest makes the last file of a shot.
func manifest(s api.Shot, segments []file) (file, api.Errno) {
	m := api.Manifest{Id: s.Id, Sum: s.Sum}
	for _, f := range segments {
		m.Rows = append(m.Rows, f.row)
	}
	body, e := wire.PutManifest(m)
	return framed(manifestName(s.Id), body, e)
}

// framed makes a file of a body, if there is one.
func framed(name string, body []byte, e api.Errno) (file, api.Errno) {
	f := file{name: name}
	if e == api.OK {
		f.data, e = frame.Wrap(body)
	}
	if e == api.OK {
		f.row = rowOf(f.data, body)
	}
	return f, e
}

// segments makes the files of all parts at the same time; of several faults the first part's is told.
func segments(s api.Shot, base stored) ([]file, error) {
	files, faults := make([]file, len(s.Parts)), make([]error, len(s.Parts))
	var lock sync.Mutex
	var workers sync.WaitGroup
	for task, part := range s.Parts {
		workers.Go(func() {
			f, err := segment(s.Id, task, part, base)
			lock.Lock()
			defer lock.Unlock()
			files[task], faults[task] = f, err
		})
	}
	workers.Wait()
	for _, err := range faults {
		if err != nil {
			return nil, err
		}
	}
	return files, nil
}

// segment makes the file of one part: the shorter one of the full segment and the difference, the full one if they are equally long.
func segment(id, task int, part api.Part, base stored) (file, error) {
	s := api.Segment{Id: id, Task: task, State: part.State, Logs: part.Logs, Pend: part.Pend}
	full, e := segmentFile(s)
	if e != api.OK && e != api.ErrFrameBody {
		return file{}, &fault{full.name, e}
	}
	less, ok := base.difference(s)
	if ok && (e != api.OK || len(less.data) < len(full.data)) {
		return less, nil
	}
	if e != api.OK {
		return file{}, &fault{full.name, e}
	}
	return full, nil
}

// difference makes the file of a full segment as its difference from this shot, if it can be one.
func (b stored) difference(full api.Segment) (file, bool) {
	if full.Task >= len(b.chains) {
		return file{}, false
	}
	chain := b.chains[full.Task]
	if differences := len(chain) - 1; differences >= api.MaxChain {
		return file{}, false
	}
	d, e := delta.Diff(b.shot.Parts[full.Task].State, full.State)
	if e != api.OK {
		return file{}, false
	}
	s := full
	s.State, s.Base, s.BaseSum, s.Delta = api.State{}, b.shot.Id, chain[0].sum, d
	f, e := segmentFile(s)
	return f, e == api.OK
}

func segmentFile(s api.Segment) (file, api.Errno) {
	body, e := wire.PutSegment(s)
	return framed(segmentName(s.Id, s.Task), body, e)
}
