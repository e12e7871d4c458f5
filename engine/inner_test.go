package engine

import (
	"testing"

	"eddy/api"
)

// TestGap: no run of an engine leads there: a shot that asks for more output than is committed is passed over, and what a runner tells as pending follows what is committed. A commit that has a gap halts the engine all the same.
func TestGap(t *testing.T) {
	rec := api.Record{Key: "x", Val: api.Value{Kind: api.Int, Int: 1}}
	e, err := New("plan 2\ntask s source 0\ntask e tee\ntask k sink\ntask l sink\nedge s.0 e.0\nedge e.0 k.0\nedge e.1 l.0", []string{""}, api.Recorded, nil)
	if err != nil {
		t.Fatal(err)
	}
	shot := api.Shot{Parts: []api.Part{{}, {}, {State: api.State{Num: 1}, Pend: []api.Record{rec}}, {State: api.State{Num: 2}, Pend: []api.Record{rec}}}}
	e.commit(shot)
	if s := e.Status(); !s.Halted || !s.Up || len(e.Committed()[0]) != 1 || len(e.Committed()[1]) != 0 {
		t.Errorf("P19.5: a gap: the status is %+v, committed is %v", s, e.Committed())
	}
	want := []api.Trail{{Kind: api.TrailUp}, {Kind: api.TrailCommit, Task: 2, Id: 1}}
	if l := e.Trail(); len(l) != 2 || l[0] != want[0] || l[1] != want[1] {
		t.Errorf("P19.5: a gap: the trail is %v", l)
	}
}

// TestReasons: a fall and a clash are told from a call that failed, however deep the reason lies.
func TestReasons(t *testing.T) {
	for _, x := range []struct {
		why         api.Errno
		fall, clash bool
	}{
		{api.ErrDiskDown, true, false}, {api.ErrOutClash, false, true}, {api.ErrOutGap, false, true}, {api.ErrDiskIO, false, false}, {api.ErrDiskFull, false, false}, {api.ErrVaultId, false, false}, {api.ErrFrameBody, false, false},
	} {
		for _, err := range []error{x.why, &api.Lost{Err: x.why}, &api.Lost{Id: 1, Name: "n", Err: &api.Fault{Err: x.why}}} {
			if isFall(err) != x.fall || isClash(err) != x.clash {
				t.Errorf("P19.4, P19.5: %v is a fall: %v, a clash: %v", err, isFall(err), isClash(err))
			}
		}
	}
	if isFall(nil) || isClash(nil) {
		t.Error("P19.4, P19.5: no error is one")
	}
}
