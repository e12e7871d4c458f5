package pen

import (
	"slices"

	"eddy/api"
)

// Steps: a pen that draws the steps of a script, in bursts: what is left of one stands in queue.
type Steps struct {
	*Pen
	Calls int  // how many steps stand between two that let something go wrong, on the whole
	Spoil bool // whether bits of files are turned
	Picks []api.Op
	tasks int
	queue []api.Op
}

// SeededSteps gives the pen of a seed, for steps of a plan that At names.
func SeededSteps(seed int) *Steps { return &Steps{Pen: Seeded(seed), Calls: 60} }

// At gets ready for a plan of this shape: Picks are all that a fair round has, with the stream.
func (s *Steps) At(sh api.Shape) {
	s.Picks, s.queue, s.tasks = nil, nil, len(sh.Order)
	for _, task := range sh.Order {
		for port := range max(1, len(sh.Ins[task])) {
			s.Picks = append(s.Picks, api.Op{Kind: api.OpPick, A: task, B: port})
		}
	}
}

// Round draws a fair round: with the stream, against it, or in any order; the post anywhere in it.
func (s *Steps) Round() []api.Op {
	var all []api.Op
	switch s.Below(3) {
	case 0:
		all = append(all, s.Picks...)
	case 1:
		for n := range s.Picks {
			all = append(all, s.Picks[len(s.Picks)-1-n])
		}
	default:
		for _, n := range s.Order(len(s.Picks)) {
			all = append(all, s.Picks[n])
		}
	}
	at := One(s.Pen, 0, len(all), s.Below(len(all)))
	return append(append(append([]api.Op(nil), all[:at]...), api.Op{Kind: api.OpPost}), all[at:]...)
}

// Step draws a step of a machine that stands so.
func (s *Steps) Step(st api.Status) api.Op {
	if !st.Up {
		s.queue = nil
		if s.Spoil && s.Below(6) == 0 {
			return s.spoil()
		}
		return api.Op{Kind: api.OpRecover, A: One(s.Pen, 0, 0, 0, s.Below(60), s.Below(4), s.Below(4)), Keep: s.keep()}
	}
	for len(s.queue) == 0 {
		s.queue = s.burst(st)
	}
	op := s.queue[0]
	s.queue = s.queue[1:]
	// A spoil is drawn only where it is asked for.
	if op.Kind == api.OpSpoil && !s.Spoil {
		return api.Op{Kind: api.OpPost}
	}
	return op
}

// keep draws what survives of a fall.
func (s *Steps) keep() []int {
	var all []int
	if s.Below(3) == 0 {
		return []int{9999}
	}
	for range s.Below(4) {
		all = append(all, One(s.Pen, 0, 9999, s.Below(60), -1, 9999))
	}
	return all
}

func (s *Steps) spoil() api.Op {
	return api.Op{Kind: api.OpSpoil, A: s.Below(30), B: s.Below(200)}
}

// wrong draws a step that lets something go wrong.
func (s *Steps) wrong() api.Op {
	switch n := s.Below(10); {
	case n < 3:
		return api.Op{Kind: api.OpCrash}
	case n < 6:
		return api.Op{Kind: api.OpArm, A: One(s.Pen, 0, s.Below(30), s.Below(200), s.Below(500))}
	case n < 9 || !s.Spoil:
		// The last call of a save is the Sync of its manifest.
		return api.Op{Kind: api.OpFail, A: One(s.Pen, 1, 1, 1, 2, 5), B: One(s.Pen, 0, s.Below(8), s.Below(40), 2*s.tasks+1, 2*s.tasks+1)}
	}
	return s.spoil()
}

// burst draws steps of a machine that is up.
func (s *Steps) burst(st api.Status) []api.Op {
	if s.Below(s.Calls/8+1) == 0 {
		return []api.Op{s.wrong()}
	}
	switch n := s.Below(20); {
	case n < 4 && st.Under == 0 || n == 0:
		return []api.Op{{Kind: api.OpTrigger}}
	case n < 7 && st.Under != 0:
		all := make([]api.Op, s.Below(s.tasks+2))
		for k := range all {
			all[k].Kind = api.OpPost
		}
		return all
	case n == 7 && s.Below(6) == 0:
		return []api.Op{{Kind: api.OpAbort}}
	case n == 8 && s.Below(4) == 0:
		return []api.Op{{Kind: s.Below(12) - 1, A: s.Between(-2, 3), B: s.Between(-2, 3)}}
	case n < 14:
		return s.Round()
	}
	var all []api.Op
	for range s.Between(1, 2*len(s.Picks)) {
		all = append(all, s.Picks[s.Below(len(s.Picks))])
	}
	return all
}

// Harmed lets something go wrong with one of a disk's files: it is gone, cut, less sure, or a bit of it is turned; or another one is there.
func (p *Pen) Harmed(files []api.File) []api.File {
	if len(files) == 0 || p.Below(5) == 0 {
		name := One(p, "man-9999", "man-9998", "seg-9997-00", "seg-0400-11", "man-0001", "other")
		if slices.ContainsFunc(files, func(f api.File) bool { return f.Name == name }) {
			return files
		}
		return append(files, api.File{Name: name, Data: []byte("no frame"), Synced: p.Below(9)})
	}
	k := p.Below(len(files))
	f := &files[k]
	switch p.Below(4) {
	case 0:
		return slices.Delete(files, k, k+1)
	case 1:
		f.Data = f.Data[:p.Below(len(f.Data)+1)]
		f.Synced = min(f.Synced, len(f.Data))
	case 2:
		f.Synced = p.Below(f.Synced + 1)
	default:
		if len(f.Data) > 0 {
			f.Data[p.Below(len(f.Data))] ^= 1 << p.Below(8)
		}
	}
	return files
}
