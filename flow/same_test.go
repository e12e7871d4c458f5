package flow_test

import (
	"testing"

	"eddy/api"
	"eddy/pen"
)

// wantSame fails the test where Same answers otherwise, either way round.
func (f tried) wantSame(t *testing.T, why string, a, b api.Config, want bool) {
	t.Helper()
	if f.Same(a, b) != want || f.Same(b, a) != want {
		t.Errorf("P9.8: %s: Same(%v, %v) answers %v and %v, want %v", why, tell(a), tell(b), f.Same(a, b), f.Same(b, a), want)
	}
}

// TestWhatMakesTwoConfigurationsUnlike: one number, text or list, at any depth; the configurations need not fit.
func TestWhatMakesTwoConfigurationsUnlike(t *testing.T) {
	f, whole := middle(t)
	// Values that no valid configuration has: the fields that don't count for their kind count here.
	whole.Lanes[11] = append(whole.Lanes[11], api.Record{Key: "odd", Val: api.Value{Kind: api.Int, Int: 3, Text: "t", Items: []api.Value{{Kind: 9, Text: "u"}}}})
	f.wantSame(t, "a copy", whole, clone(whole), true)
	odd := func(c *api.Config) *api.Value { return &c.Lanes[11][1].Val }
	for why, turn := range map[string]func(c *api.Config){
		"a source's number":             func(c *api.Config) { c.States[2].Num++ },
		"a number that none has":        func(c *api.Config) { c.States[3].Num = -1 },
		"a state more":                  func(c *api.Config) { c.States = append(c.States, api.State{}) },
		"a state less":                  func(c *api.Config) { c.States = c.States[:10] },
		"states in another order":       func(c *api.Config) { c.States[0], c.States[3] = c.States[3], c.States[0] },
		"a cell more":                   func(c *api.Config) { c.States[10].Cells = append(c.States[10].Cells, api.Cell{}) },
		"a cell less":                   func(c *api.Config) { c.States[1].Cells = c.States[1].Cells[:1] },
		"a cell's key":                  func(c *api.Config) { c.States[1].Cells[1].Key = "c" },
		"a value in a cell":             func(c *api.Config) { c.States[1].Cells[1].Vals[2].Int = 3 },
		"a value more in a cell":        func(c *api.Config) { c.States[6].Cells[0].Vals = append(c.States[6].Cells[0].Vals, api.Value{}) },
		"no value in a cell":            func(c *api.Config) { c.States[6].Cells[0].Vals = nil },
		"a lane more":                   func(c *api.Config) { c.Lanes = append(c.Lanes, nil) },
		"a lane less":                   func(c *api.Config) { c.Lanes = c.Lanes[:11] },
		"no lanes":                      func(c *api.Config) { c.Lanes = nil },
		"a record in another lane":      func(c *api.Config) { c.Lanes[0], c.Lanes[1] = c.Lanes[1], c.Lanes[0] },
		"a record more":                 func(c *api.Config) { c.Lanes[7] = recs("=none") },
		"a record less":                 func(c *api.Config) { c.Lanes[5] = c.Lanes[5][:1] },
		"records in another order":      func(c *api.Config) { c.Lanes[5][0], c.Lanes[5][1] = c.Lanes[5][1], c.Lanes[5][0] },
		"a record's key":                func(c *api.Config) { c.Lanes[4][0].Key = "B" },
		"a record's number":             func(c *api.Config) { c.Lanes[4][0].Val.Int = -3 },
		"a record's kind":               func(c *api.Config) { c.Lanes[4][0].Val.Kind = api.Text },
		"a record's text":               func(c *api.Config) { c.Lanes[4][0].Val.Text = "x" },
		"a number in a record's list":   func(c *api.Config) { c.Lanes[3][0].Val.Items[1].Int = 3 },
		"a list in a record's list":     func(c *api.Config) { c.Lanes[3][0].Val.Items[1] = val("[2]") },
		"a record's list, longer":       func(c *api.Config) { c.Lanes[3][0].Val = val("[1, 2, none]") },
		"a loop counter":                func(c *api.Config) { c.Lanes[10][0].Loops[1] = 8 },
		"a loop counter less":           func(c *api.Config) { c.Lanes[10][0].Loops = c.Lanes[10][0].Loops[:2] },
		"a loop counter more":           func(c *api.Config) { c.Lanes[4][0].Loops = []int{0} },
		"an output more":                func(c *api.Config) { c.Outs = append(c.Outs, nil) },
		"no output":                     func(c *api.Config) { c.Outs = nil },
		"a record in an output":         func(c *api.Config) { c.Outs[0][0].Val.Int = 1 },
		"a record more in an output":    func(c *api.Config) { c.Outs[0] = append(c.Outs[0], api.Record{}) },
		"a record less in an output":    func(c *api.Config) { c.Outs[0] = nil },
		"the number of an odd value":    func(c *api.Config) { odd(c).Int = 4 },
		"the text of an odd value":      func(c *api.Config) { odd(c).Text = "T" },
		"the kind of an odd value":      func(c *api.Config) { odd(c).Kind = 0 },
		"the items of an odd value":     func(c *api.Config) { odd(c).Items = nil },
		"an item of an odd value":       func(c *api.Config) { odd(c).Items[0].Text = "" },
		"the kind of an odd value's":    func(c *api.Config) { odd(c).Items[0].Kind = 8 },
		"a number of an odd value's":    func(c *api.Config) { odd(c).Items[0].Int = 8 },
		"a list within an odd value's":  func(c *api.Config) { odd(c).Items[0].Items = make([]api.Value, 1) },
		"lanes and outputs in exchange": func(c *api.Config) { c.Lanes, c.Outs = c.Outs, c.Lanes },
		"nothing at all":                func(c *api.Config) { *c = api.Config{} },
	} {
		c := clone(whole)
		turn(&c)
		f.wantSame(t, why, whole, c, false)
		f.wantSame(t, why+", twice", clone(c), c, true)
	}
}

// TestNilAndEmptyListsAreTheSame: in what is handed in, at any depth.
func TestNilAndEmptyListsAreTheSame(t *testing.T) {
	f := made(t, line(), lists("a=[]"))
	bare := api.Config{States: []api.State{{Num: 1}, {}}, Lanes: [][]api.Record{{{Key: "a", Val: api.Value{Kind: api.List}}}}, Outs: [][]api.Record{nil}}
	spare := []api.Value{val("1")}
	full := api.Config{
		States: []api.State{{Num: 1, Cells: []api.Cell{}}, {Cells: make([]api.Cell, 0, 3)}},
		Lanes:  [][]api.Record{{{Key: "a", Val: api.Value{Kind: api.List, Items: spare[:0]}, Loops: make([]int, 0, 2)}}},
		Outs:   [][]api.Record{make([]api.Record, 0, 2)},
	}
	f.wantSame(t, "nil and empty lists", bare, full, true)
	f.wantSame(t, "nil and empty lists", api.Config{}, api.Config{States: []api.State{}, Lanes: [][]api.Record{}, Outs: [][]api.Record{}}, true)
	for _, c := range []api.Config{bare, full} {
		f.wantFit(t, "nil and empty lists", c, api.OK)
		f.wants(t, "P9.5: nil and empty lists", c, api.Event{Task: 1}, config("1 / 1", "", "a=[]"))
	}
	f.replays(t, "P9.7: an empty list of events", f.Start(), []api.Event{}, f.Start(), 0, api.OK)
	if got := made(t, line(), [][]api.Record{{}, nil}); !f.Same(got.Start(), f.Start()) {
		t.Error("P9.1: an empty tape and none")
	}
}

// TestDrawnConfigsAreTheSame: just where they are written the same.
func TestDrawnConfigsAreTheSame(t *testing.T) {
	found := map[bool]int{}
	for seed := range 1500 {
		d := pen.Seeded(seed)
		p := d.Plan()
		f := made(t, p, d.Tapes(p, 3))
		a := d.Config(p, f.tapes, 2)
		b := spoilt(d, a)
		found[same(a, b)]++
		f.wantSame(t, "drawn", a, b, same(a, b))
	}
	if found[true] < 50 || found[false] < 500 {
		t.Errorf("the drawn configurations are the same: %v", found)
	}
}
