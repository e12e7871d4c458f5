package engine

import (
	"eddy/api"
	"eddy/heal"
	"eddy/outlet"
	"eddy/runner"
	"eddy/vault"
)

// A life is all that goes when the machine falls. While the machine is down it is the empty one.
type life struct {
	runner       *runner.Runner
	store        *vault.Vault
	logs         []*outlet.Outlet // by sink
	next, aborts int
	heard        int // so many of the runner's entries are in the engine's trail
}

func (l *life) isUp() bool { return l.runner != nil }

// under tells the snapshot under way; 0: there is none.
func (l *life) under() int {
	if !l.isUp() {
		return 0
	}
	id, _ := l.runner.Under()
	return id
}

// news gives the runner's entries that aren't in the engine's trail.
func (l *life) news() []api.Trail {
	if !l.isUp() {
		return nil
	}
	return l.runner.Trail()[l.heard:]
}

// tell lays an entry of the engine's own into the trail, behind what the runner told up to now.
func (e *Engine) tell(entry api.Trail) {
	news := e.news()
	e.heard += len(news)
	e.trail = append(append(e.trail, news...), entry)
}

// rise lets the machine come up, as a recover's numbers say, and tells what that did.
func (e *Engine) rise(op api.Op) int {
	e.disk.Restart(op.Keep)
	if op.A > 0 {
		e.disk.Arm(op.A - 1)
	}
	found, err := e.begin()
	if err != nil {
		return e.fall()
	}
	if found.Id > 0 {
		e.commit(found.Shot)
	}
	// What a shot that doesn't fit is made of is left alone: it may be needed by another plan.
	if e.stands() && found.Id == newestOf(e.store.Ids()) {
		e.prune()
	}
	return e.came(api.DidUp)
}

// begin makes a life of what the disk holds, and gives the shot at which it begins. No refusal but that of an output log can come here: it is the machine's fall.
func (e *Engine) begin() (api.Found, error) {
	logs, outs, err := e.openLogs()
	if err != nil {
		return api.Found{}, err
	}
	store := vault.Open(e.disk)
	found, why := heal.Newest(store, e.plan, e.shape, e.tapes, outs)
	if why != api.OK {
		return api.Found{}, why
	}
	next := store.Next()
	r, why := runner.New(e.plan, e.tapes, e.mode, found.Config, next, e.sum)
	if why != api.OK {
		return api.Found{}, why
	}
	e.life = life{runner: r, store: store, logs: logs, next: next}
	e.last = found.Id
	e.tell(api.Trail{Kind: api.TrailUp, Id: found.Id})
	return found, nil
}

// openLogs opens the output logs of all sinks, and gives their records too.
func (e *Engine) openLogs() ([]*outlet.Outlet, [][]api.Record, error) {
	var logs []*outlet.Outlet
	var outs [][]api.Record
	for _, sink := range e.shape.Sinks {
		log, err := outlet.Open(e.disk, sink)
		if err != nil {
			return nil, nil, err
		}
		logs, outs = append(logs, log), append(outs, log.Records())
	}
	return logs, outs, nil
}

// newestOf gives the greatest of rising numbers; 0, if there is none.
func newestOf(ids []int) int {
	if len(ids) == 0 {
		return 0
	}
	return ids[len(ids)-1]
}

// fall lets the machine fall: all that isn't on the disk is gone.
func (e *Engine) fall() int {
	e.disk.Crash()
	e.tell(api.Trail{Kind: api.TrailDown})
	e.life = life{}
	return api.DidDown
}

// stands tells whether a step that is under way may go on.
func (e *Engine) stands() bool { return e.isUp() && !e.halted }

// came tells what a step has come to that would have done did, had the machine stood to its end.
func (e *Engine) came(did int) int {
	switch {
	case !e.isUp():
		return api.DidDown
	case e.halted:
		return api.DidHalt
	}
	return did
}
