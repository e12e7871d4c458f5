// Package kinds: what each kind of task asks of its tasks.
package kinds

import "eddy/api"

// Span: the whole numbers from Low to High.
type Span struct {
	Low, High int
}

// Holds tells whether a number is one of them.
func (s Span) Holds(n int) bool { return s.Low <= n && n <= s.High }

// Needs: how many in ports and out ports a task has, what its Num is, and how many expressions it has.
type Needs struct {
	Ins, Outs, Num Span
	Exprs          int
}

var table = [...]Needs{
	api.Source: {Ins: Span{0, 0}, Outs: Span{1, 1}, Num: Span{0, api.MaxTapes - 1}},
	api.Map:    {Ins: Span{1, 1}, Outs: Span{1, 1}, Exprs: 2},
	api.Filter: {Ins: Span{1, 1}, Outs: Span{1, 1}, Exprs: 1},
	api.Fold:   {Ins: Span{1, 1}, Outs: Span{1, 1}, Exprs: 2},
	api.Union:  {Ins: Span{1, api.MaxPorts}, Outs: Span{1, 1}},
	api.Split:  {Ins: Span{1, 1}, Outs: Span{1, api.MaxPorts}, Exprs: 1},
	api.Tee:    {Ins: Span{1, 1}, Outs: Span{1, api.MaxPorts}},
	api.Join:   {Ins: Span{2, 2}, Outs: Span{1, 1}},
	api.Window: {Ins: Span{1, 1}, Outs: Span{1, 1}, Num: Span{1, api.MaxItems}},
	api.Dedup:  {Ins: Span{1, 1}, Outs: Span{1, 1}},
	api.Head:   {Ins: Span{2, 2}, Outs: Span{1, 1}},
	api.Tail:   {Ins: Span{1, 1}, Outs: Span{2, 2}, Num: Span{0, api.MaxHops}, Exprs: 1},
	api.Sink:   {Ins: Span{1, 1}, Outs: Span{0, 0}},
}

// Of gives the needs of a kind; false, if the number is no kind.
func Of(kind int) (Needs, bool) {
	if kind < api.Source || kind > api.Sink {
		return Needs{}, false
	}
	return table[kind], true
}
