package disk_test

import (
	"maps"
	"regexp"
	"slices"

	"eddy/api"
)

var nameForm = regexp.MustCompile(`\A[a-z0-9-]{1,12}\z`)

// A modelFile is what is sure and, apart from it, what isn't.
type modelFile struct {
	sure, unsure []byte
}

func (f modelFile) all() []byte { return slices.Concat(f.sure, f.unsure) }

// A model is a plain reading of the chapter. A rig that isn't set is nil.
type model struct {
	down  bool
	files map[string]modelFile
	units *int
	fails *[2]int
}

// modelOf gives nil where New must refuse.
func modelOf(files []api.File) *model {
	m := &model{files: map[string]modelFile{}}
	if len(files) > 400 {
		return nil
	}
	for _, f := range files {
		_, twice := m.files[f.Name]
		if twice || !nameForm.MatchString(f.Name) || len(f.Data) > 65536 || f.Synced < 0 || f.Synced > len(f.Data) {
			return nil
		}
		m.files[f.Name] = modelFile{slices.Clone(f.Data[:f.Synced]), slices.Clone(f.Data[f.Synced:])}
	}
	return m
}

// failsNow is the third of the errors.
func (m *model) failsNow() bool {
	if m.fails == nil {
		return false
	}
	if m.fails[0] > 0 {
		m.fails[0]--
		return false
	}
	m.fails[1]--
	if m.fails[1] == 0 {
		m.fails = nil
	}
	return true
}

// fallsNow is the last of the errors, but for what an Append leaves.
func (m *model) fallsNow(cost int) bool {
	if m.units == nil {
		return false
	}
	if cost > *m.units {
		return true
	}
	*m.units -= cost
	return false
}

// errors tells the first error of a call: of all but the last of P10.2.
func (m *model) errors(what, name string, size int) api.Errno {
	f, there := m.files[name]
	switch {
	case what != "list" && !nameForm.MatchString(name):
		return api.ErrDiskName
	case m.down:
		return api.ErrDiskDown
	case what != "read" && what != "list" && m.failsNow():
		return api.ErrDiskIO
	case what != "append" && what != "list" && !there:
		return api.ErrDiskNone
	case what == "append" && len(f.all())+size > 65536, what == "append" && !there && len(m.files) >= 400:
		return api.ErrDiskFull
	}
	return api.OK
}

func (m *model) put(name string, data []byte) {
	f := m.files[name]
	f.unsure = slices.Concat(f.unsure, data)
	m.files[name] = f
}

func (m *model) Append(name string, data []byte) api.Errno {
	if e := m.errors("append", name, len(data)); e != api.OK {
		return e
	}
	if m.fallsNow(len(data) + 1) {
		m.put(name, data[:*m.units])
		m.Crash()
		return api.ErrDiskDown
	}
	m.put(name, data)
	return api.OK
}

// change does what Sync, Trim or Remove do, by one function.
func (m *model) change(what, name string, do func(modelFile)) api.Errno {
	if e := m.errors(what, name, 0); e != api.OK {
		return e
	}
	if m.fallsNow(1) {
		m.Crash()
		return api.ErrDiskDown
	}
	do(m.files[name])
	return api.OK
}

func (m *model) Sync(name string) api.Errno {
	return m.change("sync", name, func(f modelFile) { m.files[name] = modelFile{sure: f.all()} })
}

func (m *model) Trim(name string, size int) api.Errno {
	return m.change("trim", name, func(f modelFile) {
		for len(f.sure)+len(f.unsure) > size && len(f.unsure) > 0 {
			f.unsure = f.unsure[:len(f.unsure)-1]
		}
		for len(f.sure) > size && len(f.sure) > 0 {
			f.sure = f.sure[:len(f.sure)-1]
		}
		m.files[name] = f
	})
}

func (m *model) Remove(name string) api.Errno {
	return m.change("remove", name, func(modelFile) {
		maps.DeleteFunc(m.files, func(other string, _ modelFile) bool { return other == name })
	})
}

func (m *model) Read(name string) ([]byte, api.Errno) {
	if e := m.errors("read", name, 0); e != api.OK {
		return nil, e
	}
	return m.files[name].all(), api.OK
}

// names are compared byte by byte by the language itself, the shorter of two that begin alike ahead.
func (m *model) names() []string { return slices.Sorted(maps.Keys(m.files)) }

func (m *model) List() ([]string, api.Errno) {
	if e := m.errors("list", "", 0); e != api.OK {
		return nil, e
	}
	return m.names(), api.OK
}

func (m *model) Arm(units int) {
	if !m.down {
		m.units = nil
		if units >= 0 {
			m.units = &units
		}
	}
}

func (m *model) Fail(after, calls int) {
	if !m.down {
		m.fails = nil
		if after >= 0 && calls > 0 {
			m.fails = &[2]int{after, calls}
		}
	}
}

func (m *model) Crash() { m.down, m.units, m.fails = true, nil, nil }

func (m *model) Restart(keep []int) {
	if !m.down {
		m.Crash()
	}
	for i, name := range m.names() {
		f := m.files[name]
		k := 0
		if len(keep) > 0 {
			k = keep[i%len(keep)]
		}
		k = max(0, min(k, len(f.unsure)))
		m.files[name] = modelFile{sure: slices.Concat(f.sure, f.unsure[:k])}
	}
	m.down = false
}

func (m *model) Spoil(name string, bit int) bool {
	f, there := m.files[name]
	if !there || bit < 0 || bit >= 8*len(f.all()) {
		return false
	}
	all := f.all()
	if mask := byte(1 << (bit % 8)); all[bit/8]&mask == 0 {
		all[bit/8] += mask
	} else {
		all[bit/8] -= mask
	}
	m.files[name] = modelFile{all[:len(f.sure)], all[len(f.sure):]}
	return true
}

func (m *model) Files() []api.File {
	var all []api.File
	for _, name := range m.names() {
		f := m.files[name]
		all = append(all, api.File{Name: name, Data: f.all(), Synced: len(f.sure)})
	}
	return all
}
