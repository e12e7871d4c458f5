package heal

import (
	"slices"

	"eddy/api"
	"eddy/stage"
	"eddy/value"
)

// keeper: a task whose part is looked at: how many in ports and out ports it has, and how many records the tape that its number names.
type keeper struct {
	task            api.Task
	ins, outs, tape int
}

// refusal tells why a part can't be one of this task.
func (k keeper) refusal(part api.Part) api.Errno {
	isSource, isSink := k.task.Kind == api.Source, k.task.Kind == api.Sink
	switch {
	case !k.canHave(part.State):
		return api.ErrHealState
	case isSource && part.State.Num > k.tape:
		return api.ErrHealOffset
	case len(part.Logs) != k.ins:
		return api.ErrHealLogs
	case slices.ContainsFunc(part.Logs, hasWrong) || hasWrong(part.Pend):
		return api.ErrHealRecord
	case !isSink && len(part.Pend) > 0 || isOverfull(part):
		return api.ErrHealPend
	}
	return api.OK
}

func (k keeper) canHave(s api.State) bool {
	g, e := stage.New(k.task, k.ins, k.outs)
	return e == api.OK && g.Legal(s) == api.OK
}

func hasWrong(records []api.Record) bool {
	return slices.ContainsFunc(records, func(r api.Record) bool { return value.CheckRecord(r) != api.OK })
}

// isOverfull tells whether more output is pending than was put out at all.
func isOverfull(part api.Part) bool { return len(part.Pend) > part.State.Num }

// countsRefusal tells why no configuration can be made of parts, whatever the outputs are: each count is asked of all tasks ahead of the next count.
func countsRefusal(p api.Plan, sh api.Shape, parts []api.Part) api.Errno {
	if len(parts) != len(p.Tasks) {
		return api.ErrHealParts
	}
	for number, part := range parts {
		if len(part.Logs) != len(at(sh.Ins, number)) {
			return api.ErrHealLogs
		}
	}
	if slices.ContainsFunc(parts, isOverfull) {
		return api.ErrHealPend
	}
	return api.OK
}
