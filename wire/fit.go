package wire

import (
	"eddy/api"
	"eddy/value"
)

func within(n, bound int) bool { return n >= 0 && n <= bound }

func checkSegment(s api.Segment) api.Errno {
	if !within(s.Id, api.MaxId) || !within(s.Task, api.MaxTasks-1) || !within(s.Base, api.MaxId) {
		return api.ErrWireBound
	}
	if holdsOtherKind(s) {
		return api.ErrWireForm
	}
	if e := checkKept(s); e != api.OK {
		return e
	}
	if len(s.Logs) > api.MaxPorts {
		return api.ErrWireBound
	}
	for _, log := range s.Logs {
		if e := checkRecords(log); e != api.OK {
			return e
		}
	}
	return checkRecords(s.Pend)
}

// holdsOtherKind tells whether a field is filled that the bytes of s would leave out: what is read back would be another segment.
func holdsOtherKind(s api.Segment) bool {
	if s.Base == 0 {
		return s.BaseSum != 0 || s.Delta.Num != 0 || len(s.Delta.Set) > 0 || len(s.Delta.Gone) > 0
	}
	return s.State.Num != 0 || len(s.State.Cells) > 0
}

// checkKept asks for what the task keeps: its state, or the difference from an earlier one.
func checkKept(s api.Segment) api.Errno {
	if s.Base == 0 {
		return value.CheckState(s.State)
	}
	if e := value.CheckState(api.State{Num: s.Delta.Num, Cells: s.Delta.Set}); e != api.OK {
		return e
	}
	return checkGone(s.Delta.Gone)
}

func checkGone(keys []string) api.Errno {
	if len(keys) > api.MaxCells {
		return api.ErrWireBound
	}
	for k, key := range keys {
		if len(key) > api.MaxKey {
			return api.ErrValKey
		}
		if k > 0 && key <= keys[k-1] {
			return api.ErrWireOrder
		}
	}
	return api.OK
}

func checkRecords(records []api.Record) api.Errno {
	if len(records) > api.MaxLog {
		return api.ErrWireBound
	}
	for _, r := range records {
		if e := value.CheckRecord(r); e != api.OK {
			return e
		}
	}
	return api.OK
}

func checkManifest(m api.Manifest) api.Errno {
	if !within(m.Id, api.MaxId) || len(m.Rows) > api.MaxTasks {
		return api.ErrWireBound
	}
	for _, r := range m.Rows {
		if !within(r.Size, api.MaxFile) {
			return api.ErrWireBound
		}
	}
	return api.OK
}

func checkRow(r api.OutRow) api.Errno {
	if !within(r.At, api.MaxNum) {
		return api.ErrWireBound
	}
	return value.CheckRecord(r.Rec)
}
