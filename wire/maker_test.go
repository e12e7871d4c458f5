package wire_test

import (
	"math"
	"math/rand"
	"slices"

	"eddy/api"
)

// A maker makes things from a fixed seed. Half of the makers are wild: what they make is often not fit, at any place.
type maker struct {
	*rand.Rand
	wild bool
}

func makerOf(r *rand.Rand) maker { return maker{r, r.Intn(2) == 0} }

// slip tells whether the next piece is to be made wrong.
func (m maker) slip() bool { return m.wild && m.Intn(25) == 0 }

// upTo makes a number within a bound, often at an edge of its groups or of the bound.
func (m maker) upTo(bound int) int {
	if m.slip() {
		return []int{-1, math.MinInt, bound + 1, math.MaxInt, -bound}[m.Intn(5)]
	}
	edges := []int{0, 1, bound - 1, bound, 127, 128, 16383, 16384, 2097151, 2097152, 1<<28 - 1, 1 << 28, m.Intn(bound + 1)}
	return min(edges[m.Intn(len(edges))], bound)
}

// count makes a number of items; mostly few.
func (m maker) count(bound int) int {
	if m.slip() {
		return bound + 1
	}
	if m.Intn(20) == 0 {
		return bound
	}
	return m.Intn(min(3, bound+1))
}

func (m maker) key() string {
	letters := []byte{'a', 'b', 0, 0x7f, 0x80, 0xff, '"'}
	b := make([]byte, m.count(api.MaxKey))
	for k := range b {
		b[k] = letters[m.Intn(len(letters))]
	}
	return string(b)
}

// rising makes keys that rise, unless one slips.
func (m maker) rising() []string {
	var all []string
	for range m.count(api.MaxCells) {
		all = append(all, m.key())
	}
	if !m.slip() {
		slices.Sort(all)
		all = slices.Compact(all)
	}
	return all
}

func (m maker) value(depth int) api.Value {
	if m.slip() {
		return []api.Value{{Kind: 4}, {Kind: -1}, {Int: 1}, text(long(25)), {Kind: api.Int, Text: "x"}, list(make([]api.Value, 7)...)}[m.Intn(6)]
	}
	switch m.Intn(5) {
	case 0:
		return none
	case 1:
		return num([]int64{0, 1, -1, 63, 64, -64, -65, math.MaxInt64, math.MinInt64}[m.Intn(9)])
	case 2:
		return text([]string{"", "a", "\x00\xff", long(24)}[m.Intn(4)])
	}
	if depth > 2 {
		return num(int64(m.Intn(1000)))
	}
	items := make([]api.Value, m.Intn(3))
	for k := range items {
		items[k] = m.value(depth + 1)
	}
	return list(items...)
}

func (m maker) record() api.Record {
	r := api.Record{Key: m.key(), Val: m.value(0)}
	for range m.count(api.MaxLoops) {
		r.Loops = append(r.Loops, m.upTo(api.MaxHops))
	}
	return r
}

func (m maker) records() []api.Record {
	var all []api.Record
	for range m.count(api.MaxLog) {
		all = append(all, m.record())
	}
	return all
}

func (m maker) cells() []api.Cell {
	var all []api.Cell
	for _, key := range m.rising() {
		c := api.Cell{Key: key}
		for range m.count(api.MaxItems) {
			c.Vals = append(c.Vals, m.value(0))
		}
		all = append(all, c)
	}
	return all
}

func someRecord(r *rand.Rand) api.Record { return makerOf(r).record() }

func someState(r *rand.Rand) api.State {
	m := makerOf(r)
	return api.State{Num: m.upTo(api.MaxNum), Cells: m.cells()}
}

func someSegment(r *rand.Rand) api.Segment {
	m := makerOf(r)
	s := api.Segment{Id: m.upTo(api.MaxId), Task: m.upTo(api.MaxTasks - 1), Base: m.upTo(api.MaxId)}
	if (s.Base == 0) != m.slip() {
		s.State = api.State{Num: m.upTo(api.MaxNum), Cells: m.cells()}
	}
	if (s.Base != 0) != m.slip() {
		s.BaseSum = r.Uint32() >> r.Intn(33)
		s.Delta = api.Delta{Num: m.upTo(api.MaxNum), Set: m.cells(), Gone: m.rising()}
	}
	for range m.count(api.MaxPorts) {
		s.Logs = append(s.Logs, m.records())
	}
	s.Pend = m.records()
	return s
}

func someManifest(r *rand.Rand) api.Manifest {
	m := makerOf(r)
	f := api.Manifest{Id: m.upTo(api.MaxId), Sum: r.Uint32() >> r.Intn(33)}
	for range m.count(api.MaxTasks) {
		f.Rows = append(f.Rows, api.Row{Size: m.upTo(api.MaxFile), Check: r.Uint32() >> r.Intn(33)})
	}
	return f
}

func someRow(r *rand.Rand) api.OutRow {
	m := makerOf(r)
	return api.OutRow{At: m.upTo(api.MaxNum), Rec: m.record()}
}
