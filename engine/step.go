package engine

import "eddy/api"

// step does a step of a machine that is up.
func (e *Engine) step(op api.Op) int {
	switch op.Kind {
	case api.OpPick:
		return e.pick(op.A, op.B)
	case api.OpTrigger:
		return e.trigger()
	case api.OpPost:
		return e.post()
	case api.OpAbort:
		return e.abort()
	case api.OpCrash:
		return e.fall()
	case api.OpArm:
		return e.arm(op.A)
	case api.OpFail:
		return e.fail(op.A, op.B)
	}
	return api.DidNothing
}

func (e *Engine) pick(task, port int) int {
	did := e.runner.Pick(task, port)
	e.halted = did == api.DidHalt
	return did
}

func (e *Engine) trigger() int {
	switch _, why := e.runner.Trigger(); why {
	case api.OK:
		e.next++
		return api.DidTrigger
	case api.ErrPostIds:
		e.halted = true
		return api.DidHalt
	}
	return api.DidNothing
}

func (e *Engine) post() int {
	shot, did := e.runner.Post()
	if did != api.DidReady {
		return did
	}
	return e.save(shot)
}

func (e *Engine) abort() int {
	if _, why := e.runner.Abort(); why != api.OK {
		return api.DidNothing
	}
	e.aborts++
	return api.DidAbort
}

func (e *Engine) arm(units int) int {
	if units < 0 {
		return api.DidNothing
	}
	e.disk.Arm(units)
	return api.DidRig
}

func (e *Engine) fail(calls, after int) int {
	if calls < 0 || after < 0 {
		return api.DidNothing
	}
	e.disk.Fail(after, calls)
	return api.DidRig
}

// spoil turns a bit of a file, whether the machine is up or down.
func (e *Engine) spoil(number, bit int) int {
	files := e.disk.Files()
	if number < 0 || number >= len(files) || !e.disk.Spoil(files[number].Name, bit) {
		return api.DidNothing
	}
	return api.DidRig
}
