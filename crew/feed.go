package crew

import (
	"eddy/api"
	"eddy/lane"
)

// A feed is where what stands at an in port comes from: a lane, or a tape behind a control lane.
type feed interface {
	// Pull takes the oldest marker out, wherever it stands: its number (0: there is none), and the records ahead of it.
	Pull() (int, []api.Record)
	// Peek tells what stands there first.
	Peek() (api.Item, bool)
	// Take lets leave what stands in the lane first; what stands on a tape stays there.
	Take() (api.Item, bool)
}

// A tape is a source's feed: a control lane, which carries markers alone, and where that is empty the records behind it.
type tape struct {
	*lane.Lane
	records []api.Record
	state   *api.State // the source's: its number tells how many records are read
}

func (t *tape) Peek() (api.Item, bool) {
	if x, ok := t.Lane.Peek(); ok {
		return x, true
	}
	if t.state.Num == len(t.records) {
		return api.Item{}, false
	}
	return api.Item{Rec: t.records[t.state.Num]}, true
}
