package engine

import (
	"errors"

	"eddy/api"
)

// isFall tells a fall of the machine from a call of the disk that failed.
func isFall(err error) bool { return errors.Is(err, api.ErrDiskDown) }

// isClash tells whether an output log holds another run's output than this one: no later commit can make that good.
func isClash(err error) bool {
	var why api.Errno
	return errors.As(err, &why) && (why == api.ErrOutClash || why == api.ErrOutGap)
}

// save stores a shot that is ready, and tells what that did.
func (e *Engine) save(shot api.Shot) int {
	switch err := e.store.Save(shot); {
	case err == nil:
		return e.complete(shot)
	case isFall(err):
		return e.fall()
	}
	e.runner.Settle(shot.Id, false)
	e.aborts++
	e.tell(api.Trail{Kind: api.TrailAbort, Id: shot.Id})
	return api.DidAbort
}

// complete does what a shot that is stored makes possible.
func (e *Engine) complete(shot api.Shot) int {
	e.runner.Settle(shot.Id, true)
	e.last = shot.Id
	e.tell(api.Trail{Kind: api.TrailComplete, Id: shot.Id})
	e.commit(shot)
	if e.stands() {
		e.prune()
	}
	return e.came(api.DidComplete)
}

// commit lays a shot's pending output down. What isn't sure behind that stays pending, so that the runner tells it again with a later shot.
func (e *Engine) commit(shot api.Shot) {
	var counts []int
	for k, sink := range e.shape.Sinks {
		part, log := shot.Parts[sink], e.logs[k]
		switch err := log.Commit(part.State.Num-len(part.Pend), part.Pend); {
		case err == nil:
			e.tell(api.Trail{Kind: api.TrailCommit, Task: sink, Id: log.Len()})
		case isFall(err):
			e.fall()
			return
		case isClash(err):
			e.halted = true
			return
		}
		counts = append(counts, log.Len())
	}
	e.runner.Commit(counts)
}

// prune takes away what is no longer needed; what can't be taken away now is so at another time.
func (e *Engine) prune() {
	if isFall(e.store.Prune()) {
		e.fall()
	}
}

// sureOf gives the sure bytes of a file; none, if there is no such file.
func sureOf(files []api.File, name string) []byte {
	for _, f := range files {
		if f.Name == name {
			return f.Data[:f.Synced]
		}
	}
	return nil
}
