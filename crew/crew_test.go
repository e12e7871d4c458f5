package crew

import (
	"fmt"
	"reflect"
	"testing"

	"eddy/api"
	"eddy/equal"
	"eddy/flow"
	"eddy/lane"
	"eddy/pen"
)

// A ferry is a lane in which what was laid can be taken when a test lets it come; and it is full, or spent, when a test says so.
type ferry struct {
	*lane.Lane
	laid        []api.Item
	full, spent bool
}

func (f *ferry) Lay(x api.Item) { f.laid = append(f.laid, x) }
func (f *ferry) Full() bool     { return f.full }
func (f *ferry) Spent() bool    { return f.spent }

func (f *ferry) Records() []api.Record {
	return append(Records(f.List()), Records(f.laid)...)
}

// come lets all come that was laid.
func (f *ferry) come() {
	f.Put(f.laid...)
	f.laid = nil
}

// ferries makes a maker of ferries, and gathers what it has made.
func ferries(all *[]*ferry) Maker {
	return func(edge, room int, begun []api.Record) (Lane, api.Errno) {
		l, e := Filled(0, begun)
		f := &ferry{Lane: l}
		*all = append(*all, f)
		return f, e
	}
}

// asked fails the test where a pick answers otherwise.
func asked(t *testing.T, c *Crew, task, port, want int) {
	t.Helper()
	if did := c.Pick(task, port); did != want {
		t.Errorf("Pick(%d, %d) answers %d, want %d", task, port, did, want)
	}
}

// TestTheMakerIsAsked: for each edge from 0 on, with its room and its records; a back edge has no bound.
func TestTheMakerIsAsked(t *testing.T) {
	p := pen.ReadPlan("s source 0", "h head", "t tail 0 ; 2", "k sink", "s.0 h.0", "h.0 t.0", "t.0 h.1", "t.1 k.0")
	p.Cap = 5
	start := pen.ReadConfig("0 / 0 / 0 / 0", "a=1 / / b=2@1 | c=3@1 /", "")
	var told []string
	o := Orders{Plan: p, Tapes: [][]api.Record{nil}, Mode: api.Aligned, Start: start, Next: 1}
	if _, e := New(o, func(edge, room int, begun []api.Record) (Lane, api.Errno) {
		told = append(told, fmt.Sprint(edge, " ", room, " ", pen.TellRecords(begun)))
		return Local(edge, room, begun)
	}); e != api.OK {
		t.Errorf("New answers error %d", e)
	}
	if want := []string{"0 5 a=1", "1 5 ", "2 0 b=2@1 | c=3@1", "3 5 "}; !reflect.DeepEqual(told, want) {
		t.Errorf("the maker is asked for %q, want %q", told, want)
	}
	for bad := range p.Edges {
		c, e := New(o, func(edge, room int, begun []api.Record) (Lane, api.Errno) {
			if edge == bad {
				return nil, api.ErrLaneRoom
			}
			return Local(edge, room, begun)
		})
		if c != nil || e != api.ErrLaneRoom {
			t.Errorf("where the lane of edge %d can't be made, New answers error %d", bad, e)
		}
	}
}

// TestRefusal: the first of several errors.
func TestRefusal(t *testing.T) {
	p := chain(api.Task{Kind: api.Source}, api.Task{Kind: api.Sink})
	tapes := [][]api.Record{nil}
	f, _ := flow.New(p, tapes)
	o := Orders{Plan: p, Tapes: tapes, Mode: api.Recorded, Start: f.Start(), Next: 10000}
	for _, step := range []struct {
		spoil func(o *Orders)
		want  api.Errno
	}{
		{func(*Orders) {}, api.OK},
		{func(o *Orders) { o.Next = 10001 }, api.ErrRunNext},
		{func(o *Orders) { o.Next = 0 }, api.ErrRunNext},
		{func(o *Orders) { o.Start.Outs = nil }, api.ErrFlowFit},
		{func(o *Orders) { o.Mode = 0 }, api.ErrRunMode},
		{func(o *Orders) { o.Mode = 4 }, api.ErrRunMode},
		{func(o *Orders) { o.Tapes = nil }, api.ErrFlowTape},
		{func(o *Orders) { o.Plan.Edges = nil }, api.ErrShapePort},
	} {
		step.spoil(&o)
		if e := o.Refusal(); e != step.want {
			t.Errorf("P16.1: %+v is refused with %d, want %d", o, e, step.want)
		}
	}
}

// TestLanesOfAnyKind: what has come is taken, what was laid counts to the configuration.
func TestLanesOfAnyKind(t *testing.T) {
	for mode := 1; mode <= 3; mode++ {
		var all []*ferry
		c := made(t, chain(api.Task{Kind: api.Source}, api.Task{Kind: api.Union}, api.Task{Kind: api.Sink}), mode, ferries(&all))
		asked(t, c, 0, 0, api.DidStep)
		c.Trigger()
		asked(t, c, 0, 0, api.DidMark)
		asked(t, c, 1, 0, api.DidEmpty)
		if here, l := c.Here(), c.Config().Lanes; !reflect.DeepEqual(here, []int{0, 0}) || len(l[0]) != 1 || len(l[1]) != 0 {
			t.Errorf("mode %d: %v have come, of %v", mode, here, l)
		}
		all[0].come()
		if here := c.Here(); !reflect.DeepEqual(here, []int{2, 0}) {
			t.Errorf("mode %d: %v have come", mode, here)
		}
		if mode == api.Overtaking {
			asked(t, c, 1, 0, api.DidMark)
			asked(t, c, 1, 0, api.DidStep)
		} else {
			asked(t, c, 1, 0, api.DidStep)
			asked(t, c, 1, 0, api.DidMark)
		}
		asked(t, c, 2, 0, api.DidEmpty)
		if l := all[1].laid; len(l) != 2 || l[0].Mark+l[1].Mark != 1 {
			t.Errorf("mode %d: laid is %v", mode, l)
		}
	}
}

// TestFullAndSpent: a lane is asked whether it takes a record; one that is spent halts, ahead of the room and behind the operator's error; no marker asks.
func TestFullAndSpent(t *testing.T) {
	p := chain(api.Task{Kind: api.Source}, api.Task{Kind: api.Tee}, api.Task{Kind: api.Sink}, api.Task{Kind: api.Sink})
	p.Edges[2].From, p.Edges[2].Out = 1, 1
	for mode := 1; mode <= 3; mode++ {
		var all []*ferry
		c := made(t, p, mode, ferries(&all))
		asked(t, c, 0, 0, api.DidStep)
		asked(t, c, 0, 0, api.DidStep)
		all[0].come()
		for bits := range 16 {
			all[1].full, all[1].spent, all[2].full, all[2].spent = bits&1 > 0, bits&2 > 0, bits&4 > 0, bits&8 > 0
			switch {
			case bits&10 > 0:
				halts(t, c, 1, 0)
			case bits&5 > 0:
				before := c.Config()
				asked(t, c, 1, 0, api.DidBlock)
				if !equal.Config(c.Config(), before) {
					t.Errorf("mode %d: a pick without room has changed something", mode)
				}
			}
		}
		c.Trigger()
		asked(t, c, 0, 0, api.DidMark)
		all[0].come()
		if mode == api.Overtaking {
			asked(t, c, 1, 0, api.DidMark)
		}
		all[1].spent, all[2].spent, all[2].full = false, false, false
		asked(t, c, 1, 0, api.DidBlock)
		all[1].full = false
		asked(t, c, 1, 0, api.DidStep)
	}
}

// TestLocal: a lane whose items are there at once.
func TestLocal(t *testing.T) {
	for _, room := range []int{0, 1, 3} {
		l, e := Local(7, room, pen.ReadRecords("a=1 | b=2"))
		if e != api.OK || l.Spent() || l.Full() != (room == 1) {
			t.Errorf("room %d: error %d, full %v", room, e, l.Full())
		}
		l.Lay(api.Item{Mark: 5})
		if l.Lay(api.Item{Rec: pen.ReadRecord("c=3")}); room == 3 && !l.Full() {
			t.Error("a lane of three records has room for more than three")
		}
		want := "a=1 | b=2 | c=3"
		if room == 1 {
			want = "a=1 | b=2"
		}
		if got := pen.TellRecords(l.Records()); got != want || len(l.List()) != len(l.Records())+1 {
			t.Errorf("room %d: the records are %s, want %s", room, got, want)
		}
	}
	if l, e := Local(0, 9, nil); l != nil || e != api.ErrLaneRoom {
		t.Errorf("a lane of a room of 9: error %d", e)
	}
}
