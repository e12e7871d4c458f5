package engine_test

import (
	"errors"
	"fmt"
	"testing"

	"eddy/api"
	"eddy/disk"
	"eddy/flow"
	"eddy/heal"
	"eddy/outlet"
	"eddy/plan"
	"eddy/runner"
	"eddy/shape"
	"eddy/vault"
)

// A model is the chapter read a second time, line by line: the trail is gathered behind every call of the runner, each number is kept on its own, and nothing goes by itself when the machine falls.
type model struct {
	plan   api.Plan
	shape  api.Shape
	tapes  [][]api.Record
	mode   int
	disk   *disk.Disk
	vault  *vault.Vault
	outs   []*outlet.Outlet
	run    *runner.Runner
	told   int
	trail  []api.Trail
	status api.Status
}

// modelNew is P19.1.
func modelNew(text string, tapes []string, mode int, files []api.File) (*model, error) {
	m := &model{mode: mode}
	if mode != 1 && mode != 2 && mode != 3 {
		return nil, api.ErrEngMode
	}
	var err error
	var e api.Errno
	if m.plan, err = plan.ParsePlan(text); err != nil {
		return nil, err
	}
	if m.shape, _, e = shape.Build(m.plan); e != 0 {
		return nil, e
	}
	if len(tapes) > 4 {
		return nil, api.ErrEngTapes
	}
	m.tapes = make([][]api.Record, len(tapes))
	for k := range tapes {
		if m.tapes[k], err = plan.ParseTape(tapes[k]); err != nil {
			return nil, err
		}
	}
	if _, e = flow.New(m.plan, m.tapes); e != 0 {
		return nil, e
	}
	if m.disk, e = disk.New(files); e != 0 {
		return nil, e
	}
	m.comeUp(nil, 0)
	return m, nil
}

func (g ground) model(t *testing.T) *model {
	t.Helper()
	m, err := modelNew(g.text, g.tapes, g.mode, g.files)
	if err != nil {
		t.Fatalf("the model: %v: %v", g, err)
	}
	return m
}

// tell lays an entry into the trail.
func (m *model) tell(kind, task, id int) {
	m.trail = append(m.trail, api.Trail{Kind: kind, Task: task, Id: id})
}

// gather lays into the trail what the runner told in its last call.
func (m *model) gather() {
	all := m.run.Trail()
	for m.told < len(all) {
		m.trail = append(m.trail, all[m.told])
		m.told++
	}
}

// comeUp is P19.2.
func (m *model) comeUp(keep []int, a int) int {
	m.disk.Restart(keep)
	if a > 0 {
		m.disk.Arm(a - 1)
	}
	m.outs = nil
	var records [][]api.Record
	for _, sink := range m.shape.Sinks {
		o, err := outlet.Open(m.disk, sink)
		if err != nil {
			m.fall()
			return 11
		}
		m.outs = append(m.outs, o)
		records = append(records, o.Records())
	}
	m.vault = vault.Open(m.disk)
	found, e := heal.Newest(m.vault, m.plan, m.shape, m.tapes, records)
	if e != 0 {
		panic(fmt.Sprint("Newest: error ", int(e)))
	}
	m.run, e = runner.New(m.plan, m.tapes, m.mode, found.Config, m.vault.Next(), heal.Sum(m.plan, m.tapes))
	if e != 0 {
		panic(fmt.Sprint("runner.New: error ", int(e)))
	}
	m.told = 0
	m.tell(api.TrailUp, 0, found.Id)
	m.status = api.Status{Up: true, Last: found.Id, Next: m.vault.Next()}
	if found.Id != 0 {
		m.commit(found.Shot)
	}
	if m.status.Up && !m.status.Halted {
		ids := m.vault.Ids()
		if found.Id == 0 && len(ids) == 0 || found.Id != 0 && ids[len(ids)-1] == found.Id {
			m.prune()
		}
	}
	if !m.status.Up {
		return 11
	}
	if m.status.Halted {
		return 13
	}
	return 12
}

// fall is P19.6.
func (m *model) fall() {
	m.disk.Crash()
	m.tell(api.TrailDown, 0, 0)
	m.run = nil
	m.status.Up, m.status.Under, m.status.Next, m.status.Aborts = false, 0, 0, 0
}

func (m *model) prune() {
	if err := m.vault.Prune(); errors.Is(err, api.ErrDiskDown) {
		m.fall()
	}
}

// commit is P19.5.
func (m *model) commit(s api.Shot) {
	for k, sink := range m.shape.Sinks {
		pend := s.Parts[sink].Pend
		err := m.outs[k].Commit(s.Parts[sink].State.Num-len(pend), pend)
		if err == nil {
			m.tell(api.TrailCommit, sink, m.outs[k].Len())
			continue
		}
		if errors.Is(err, api.ErrDiskDown) {
			m.fall()
			return
		}
		if errors.Is(err, api.ErrOutClash) || errors.Is(err, api.ErrOutGap) {
			m.status.Halted = true
			return
		}
	}
	var lengths []int
	for _, o := range m.outs {
		lengths = append(lengths, o.Len())
	}
	m.run.Commit(lengths)
}

// store is P19.4.
func (m *model) store(s api.Shot) int {
	err := m.vault.Save(s)
	if errors.Is(err, api.ErrDiskDown) {
		m.fall()
		return 11
	}
	if err != nil {
		m.run.Settle(s.Id, false)
		m.tell(api.TrailAbort, 0, s.Id)
		m.status.Aborts++
		return 10
	}
	m.run.Settle(s.Id, true)
	m.status.Last = s.Id
	m.tell(api.TrailComplete, 0, s.Id)
	m.commit(s)
	if m.status.Up && !m.status.Halted {
		m.prune()
	}
	if !m.status.Up {
		return 11
	} else if m.status.Halted {
		return 13
	}
	return 9
}

// Do is P19.3.
func (m *model) Do(op api.Op) int {
	if m.status.Halted {
		return 13
	}
	if !m.status.Up {
		switch op.Kind {
		case api.OpRecover:
			return m.comeUp(op.Keep, op.A)
		case api.OpSpoil:
			return m.spoil(op)
		}
		return 11
	}
	switch op.Kind {
	case api.OpPick:
		did := m.run.Pick(op.A, op.B)
		m.gather()
		m.status.Halted = did == 13
		return did
	case api.OpTrigger:
		_, e := m.run.Trigger()
		m.gather()
		if e == api.ErrPostUnder {
			return 0
		} else if e == api.ErrPostIds {
			m.status.Halted = true
			return 13
		}
		m.status.Next++
		return 6
	case api.OpPost:
		s, did := m.run.Post()
		m.gather()
		if did == 8 {
			return m.store(s)
		}
		return did
	case api.OpAbort:
		_, e := m.run.Abort()
		m.gather()
		if e != 0 {
			return 0
		}
		m.status.Aborts++
		return 10
	}
	return m.wrong(op)
}

// wrong is the rest of P19.3: what lets something go wrong.
func (m *model) wrong(op api.Op) int {
	switch op.Kind {
	case api.OpCrash:
		m.fall()
		return 11
	case api.OpArm:
		if op.A < 0 {
			return 0
		}
		m.disk.Arm(op.A)
		return 14
	case api.OpFail:
		if op.A < 0 || op.B < 0 {
			return 0
		}
		m.disk.Fail(op.B, op.A)
		return 14
	case api.OpSpoil:
		return m.spoil(op)
	}
	return 0
}

func (m *model) spoil(op api.Op) int {
	for k, f := range m.disk.Files() {
		if k == op.A && m.disk.Spoil(f.Name, op.B) {
			return 14
		}
	}
	return 0
}

func (m *model) Status() api.Status {
	s := m.status
	if s.Up {
		s.Under, _ = m.run.Under()
	}
	return s
}

func (m *model) Config() api.Config {
	if m.status.Up {
		return m.run.Config()
	}
	return api.Config{}
}

func (m *model) Committed() [][]api.Record {
	all := make([][]api.Record, len(m.shape.Sinks))
	for _, f := range m.disk.Files() {
		for k, sink := range m.shape.Sinks {
			if f.Name == fmt.Sprintf("out-%02d", sink) {
				all[k], _ = outlet.Scan(f.Data[:f.Synced])
			}
		}
	}
	return all
}

func (m *model) Shot(id int) (api.Shot, error) {
	if !m.status.Up {
		return api.Shot{}, api.ErrDiskDown
	}
	return m.vault.Load(id)
}

func (m *model) Trail() []api.Trail { return append([]api.Trail(nil), m.trail...) }

func (m *model) Files() []api.File { return m.disk.Files() }
