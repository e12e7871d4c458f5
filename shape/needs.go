package shape

import "eddy/api"

// span: the whole numbers from low to high.
type span struct {
	low, high int
}

func (s span) holds(n int) bool { return s.low <= n && n <= s.high }

// needs: what a kind asks of its tasks: how many ports, which Num, how many expressions.
type needs struct {
	ins, outs, num span
	exprs          int
}

var kinds = [...]needs{
	api.Source: {ins: span{0, 0}, outs: span{1, 1}, num: span{0, api.MaxTapes - 1}},
	api.Map:    {ins: span{1, 1}, outs: span{1, 1}, exprs: 2},
	api.Filter: {ins: span{1, 1}, outs: span{1, 1}, exprs: 1},
	api.Fold:   {ins: span{1, 1}, outs: span{1, 1}, exprs: 2},
	api.Union:  {ins: span{1, api.MaxPorts}, outs: span{1, 1}},
	api.Split:  {ins: span{1, 1}, outs: span{1, api.MaxPorts}, exprs: 1},
	api.Tee:    {ins: span{1, 1}, outs: span{1, api.MaxPorts}},
	api.Join:   {ins: span{2, 2}, outs: span{1, 1}},
	api.Window: {ins: span{1, 1}, outs: span{1, 1}, num: span{1, api.MaxItems}},
	api.Dedup:  {ins: span{1, 1}, outs: span{1, 1}},
	api.Head:   {ins: span{2, 2}, outs: span{1, 1}},
	api.Tail:   {ins: span{1, 1}, outs: span{2, 2}, num: span{0, api.MaxHops}, exprs: 1},
	api.Sink:   {ins: span{1, 1}, outs: span{0, 0}},
}

func needsOf(kind int) (needs, bool) {
	if kind < api.Source || kind > api.Sink {
		return needs{}, false
	}
	return kinds[kind], true
}
