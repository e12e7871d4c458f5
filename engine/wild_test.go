package engine_test

import (
	"fmt"
	"math"
	"slices"
	"strings"
	"testing"

	"eddy/api"
	"eddy/disk"
	"eddy/engine"
	"eddy/heal"
	"eddy/outlet"
	"eddy/pen"
	"eddy/vault"
)

// wildText draws a text: a right one of which something is changed, pieces of right ones, or any bytes.
func (w *writer) wildText(right string) string {
	text := []byte(right)
	switch w.Below(6) {
	case 0:
		return right
	case 1:
		text = text[:0]
		for range w.Below(40) {
			text = append(text, byte(w.Below(256)))
		}
		return string(text)
	case 2:
		return strings.Repeat(right, w.Below(30))
	}
	for range w.Between(1, 4) {
		if len(text) == 0 {
			break
		}
		at := w.Below(len(text))
		switch w.Below(4) {
		case 0:
			text[at] = byte(w.Below(256))
		case 1:
			text = slices.Delete(text, at, min(len(text), at+w.Between(1, 9)))
		case 2:
			text = slices.Insert(text, at, []byte(pen.One(w.Pen, "\n", " ", "0", "9999999999", "\"", "task k sink\n", "edge s.0 k.0\n", ";", "-", "repeat 3\n", "end\n", "recover arm 3 1\n"))...)
		default:
			text = append(text, text[at:]...)
		}
	}
	return string(text)
}

// isListed tells whether an error is one that New or Play may answer: a Fault whose reason is an Errno, or an Errno itself.
func isListed(err error) bool {
	switch x := err.(type) {
	case api.Errno:
		return x != api.OK
	case *api.Fault:
		why, ok := x.Err.(api.Errno)
		return ok && why != api.OK
	}
	return false
}

// TestAnyTexts: P20.5: every text as plan, tape and script: an engine, or a listed error and no engine.
func TestAnyTexts(t *testing.T) {
	met := map[string]int{}
	for seed := range 1500 {
		w := seeded(seed)
		g := w.ground()
		script := "pick 0 0\npick 1 0\ntrigger\nrepeat 5\npick 0 0\npick 1 0\npost\nend\nfail 1 after 3\ncrash\nrecover arm 3 9999 -1\nspoil 0 5\narm 9\n"
		g.text, script = pen.One(w.Pen, g.text, g.text, w.wildText(g.text)), w.wildText(script)
		for k := range g.tapes {
			g.tapes[k] = pen.One(w.Pen, g.tapes[k], g.tapes[k], w.wildText(g.tapes[k]))
		}
		if w.Below(10) == 0 {
			g.tapes = append(g.tapes, w.wildText(""), w.wildText("\"a\" 1\n"))
		}
		e, err := engine.New(g.text, g.tapes, g.mode, nil)
		if (e == nil) != (err != nil) || err != nil && !isListed(err) {
			t.Fatalf("P20.5: %v: New answers an engine: %v, and %s", g, e != nil, errorTold(err))
		}
		if m, mErr := modelNew(g.text, g.tapes, g.mode, nil); errorTold(mErr) != errorTold(err) {
			t.Fatalf("P19.1: %v: New answers %s, want %s, %v", g, errorTold(err), errorTold(mErr), m != nil)
		}
		text, pErr := engine.Play(g.text, script, g.mode, g.tapes...)
		if (text == "") != (pErr != nil) || pErr != nil && !isListed(pErr) || err != nil && errorTold(pErr) != errorTold(err) {
			t.Fatalf("P20.5: %v: Play of %q answers %q, %s", g, script, text, errorTold(pErr))
		}
		met[fmt.Sprint("an engine: ", err == nil, ", played: ", pErr == nil)]++
	}
	wantCases(t, met, 100, "an engine: true, played: true", "an engine: true, played: false", "an engine: false, played: false")
}

// TestAnySteps: P20.5: steps of any numbers mean nothing or something, and end.
func TestAnySteps(t *testing.T) {
	numbers := odd()
	for seed := range 150 {
		w := seeded(seed)
		g := w.wornGround(t)
		w.at(g)
		e, m := g.open(t), g.model(t)
		for range 200 {
			op := w.Step(m.Status())
			if w.Below(3) == 0 {
				op = api.Op{Kind: pen.One(w.Pen, w.Between(-1, 11), numbers...), A: pen.One(w.Pen, 0, numbers...), B: pen.One(w.Pen, 0, numbers...)}
				for range w.Below(4) {
					op.Keep = append(op.Keep, pen.One(w.Pen, 0, numbers...))
				}
			}
			if got, want := e.Do(op), m.Do(op); got != want {
				t.Fatalf("P20.5: %v: %s answers %d, want %d", g, opTold(op), got, want)
			}
		}
		if why := difference(e, m); why != "" {
			t.Fatalf("P20.5: %v: %s", g, why)
		}
	}
}

// wildDisk draws what a disk holds without any regard to what an engine lays there.
func (w *writer) wildDisk() []api.File {
	var files []api.File
	for range w.Below(20) {
		name := pen.One(w.Pen, fmt.Sprintf("man-%04d", w.Below(12)), fmt.Sprintf("seg-%04d-%02d", w.Below(12), w.Below(14)), fmt.Sprintf("out-%02d", w.Below(14)), "man-9999", "seg-9998-00", "-", "zzzzzzzzzzzz")
		if slices.ContainsFunc(files, func(f api.File) bool { return f.Name == name }) {
			continue
		}
		f := api.File{Name: name}
		for range pen.One(w.Pen, 0, 1, 16, 40, 300) {
			f.Data = append(f.Data, byte(pen.One(w.Pen, 0, 255, w.Below(256))))
		}
		f.Synced = pen.One(w.Pen, len(f.Data), w.Below(len(f.Data)+1))
		files = append(files, f)
	}
	return files
}

// TestAnyDisk: P20.5: every content of the disk: the engine answers, and is at the beginning where nothing of it is a shot.
func TestAnyDisk(t *testing.T) {
	for seed := range 200 {
		w := seeded(seed)
		g := w.ground()
		g = g.over(w.wildDisk()...)
		e, m := g.open(t), g.model(t)
		if s := e.Status(); !s.Up || s.Halted || s.Last != 0 {
			t.Fatalf("P20.5: %v: the status is %s", g, statusTold(s))
		}
		w.at(g)
		for range 60 {
			op := w.Step(m.Status())
			if got, want := e.Do(op), m.Do(op); got != want {
				t.Fatalf("P20.5: %v: %s answers %d, want %d", g, opTold(op), got, want)
			}
		}
		if why := difference(e, m); why != "" {
			t.Fatalf("P20.5: %v: %s", g, why)
		}
	}
}

// made lays a shot and output logs on a disk by hand, and gives what lies there.
func made(t *testing.T, s api.Shot, sinks []int, outs [][]api.Record) []api.File {
	t.Helper()
	d, _ := disk.New(nil)
	for k, sink := range sinks {
		o, err := outlet.Open(d, sink)
		if err == nil {
			err = o.Commit(0, outs[k])
		}
		if err != nil {
			t.Fatalf("no output log: %v", err)
		}
	}
	if err := vault.Open(d).Save(s); err != nil {
		return nil
	}
	return d.Files()
}

// TestShotsMadeByHand: any configuration of a plan may stand in a shot: the machine comes up there, its lanes holding more than their bound, and goes on.
func TestShotsMadeByHand(t *testing.T) {
	met := map[string]int{}
	for seed := range 300 {
		w := seeded(seed)
		g := w.ground()
		p, sh, tapes, f := g.parts()
		c := w.Config(p, tapes, pen.One(w.Pen, 0, 2, 12))
		s := api.Shot{Id: pen.One(w.Pen, 1, 1, 7, 9998, 9999), Sum: heal.Sum(p, tapes)}
		committed := make([][]api.Record, len(c.Outs))
		for task := range p.Tasks {
			part := api.Part{State: c.States[task]}
			for _, edge := range sh.Ins[task] {
				part.Logs = append(part.Logs, c.Lanes[edge])
			}
			if k := slices.Index(sh.Sinks, task); k >= 0 {
				n := w.Below(len(c.Outs[k]) + 1)
				committed[k], part.Pend = c.Outs[k][:n], c.Outs[k][n:]
			}
			s.Parts = append(s.Parts, part)
		}
		files := made(t, s, sh.Sinks, committed)
		if files == nil {
			met["too great to be stored"]++
			continue
		}
		e := g.over(files...).open(t)
		if s.Id > 0 && (e.Status() != api.Status{Up: true, Last: s.Id, Next: s.Id + 1} || !f.Same(e.Config(), c) || pen.TellLists(e.Committed()) != pen.TellLists(c.Outs)) {
			t.Fatalf("P19.2: %v: over a shot of %s the status is %s, the configuration %s, committed is %s", g, pen.TellConfig(c), statusTold(e.Status()), pen.TellConfig(e.Config()), pen.TellLists(e.Committed()))
		}
		m := g.over(files...).model(t)
		w.at(g)
		for range 150 {
			op := w.Step(m.Status())
			if got, want := e.Do(op), m.Do(op); got != want {
				t.Fatalf("P19.3: %v: over a shot of %s: %s answers %d, want %d", g, pen.TellConfig(c), opTold(op), got, want)
			}
		}
		if why := difference(e, m); why != "" {
			t.Fatalf("P19.8 to P19.13: %v: over a shot of %s: %s", g, pen.TellConfig(c), why)
		}
		met[fmt.Sprint("halted: ", e.Status().Halted)]++
	}
	wantCases(t, met, 20, "halted: true", "halted: false")
}

// TestWildShots: shots whose parts are anything are passed over.
func TestWildShots(t *testing.T) {
	met := map[string]int{}
	for seed := range 300 {
		w := pen.SeededWild(seed)
		g := line()
		p, sh, tapes, f := g.parts()
		s := api.Shot{Id: 3, Sum: heal.Sum(p, tapes) + uint32(w.Below(2))}
		for range pen.One(w.Pen, 2, 2, 2, 1, 3, 12) {
			s.Parts = append(s.Parts, pen.One(w.Pen, w.Part(2), api.Part{}, api.Part{State: api.State{Num: w.Below(5)}, Logs: make([][]api.Record, w.Below(3)), Pend: pen.ReadRecords("a=1")}))
		}
		if w.Below(3) == 0 {
			s.Parts = []api.Part{{State: api.State{Num: w.Below(4)}}, {State: api.State{Num: w.Below(4)}, Logs: [][]api.Record{pen.ReadRecords("z=9 | y=8 | x=7")}, Pend: pen.ReadRecords("q=1")}}
		}
		files := made(t, s, sh.Sinks, [][]api.Record{pen.ReadRecords("a=1")})
		if files == nil {
			met["can't be stored"]++
			continue
		}
		e, m := g.over(files...).open(t), g.over(files...).model(t)
		if why := difference(e, m); why != "" {
			t.Fatalf("P19.2: over %s: %s", shotTold(s), why)
		}
		met[fmt.Sprint("found: ", e.Status().Last > 0)]++
		if st := e.Status(); !st.Up || f.Fits(e.Config()) != api.OK {
			t.Fatalf("P19.2: over %s the status is %s, the configuration %s", shotTold(s), statusTold(st), pen.TellConfig(e.Config()))
		}
	}
	wantCases(t, met, 10, "found: true", "found: false")
}

// TestFarBeyond: long lives and great numbers end.
func TestFarBeyond(t *testing.T) {
	e := line().open(t)
	for n := range 300 {
		if did := e.Do(api.Op{Kind: api.OpTrigger}); did != api.DidTrigger {
			t.Fatalf("P20.7: trigger number %d answers %d", n, did)
		}
		if got := does(e, "pick 0 0; pick 1 0; post; post"); got != "2 2 7 9" {
			t.Fatalf("P20.7: snapshot number %d: %s", n, got)
		}
		for k := range 30 {
			e.Do(api.Op{Kind: api.OpPick, A: k % 2})
		}
	}
	if got := asked(e, "status") + ": " + asked(e, "files"); got != "up last 300 next 301: man-0299, man-0300, out-01, seg-0299-00, seg-0299-01, seg-0300-00, seg-0300-01" {
		t.Errorf("P19.4: behind 300 snapshots there is %s", got)
	}
	for range 200 {
		e.Do(api.Op{Kind: api.OpCrash})
		if did := e.Do(api.Op{Kind: api.OpRecover, Keep: make([]int, 1000), A: math.MaxInt}); did != api.DidUp {
			t.Fatalf("P19.2: a recover answers %d", did)
		}
	}
	many := make([]api.File, api.MaxFiles)
	for k := range many {
		many[k] = api.File{Name: fmt.Sprintf("man-%04d", 9999-k), Data: make([]byte, 100), Synced: 100}
	}
	if s := line().over(many...).open(t); len(s.Files()) != 0 || s.Status() != (api.Status{Up: true, Next: 10000}) {
		t.Errorf("P19.2: over 400 pieces of shots the status is %s", statusTold(s.Status()))
	}
	texts := make([]string, 4)
	for k := range texts {
		texts[k] = strings.Repeat(strings.Repeat("#", 99)+"\n", 40)
	}
	if _, err := engine.New(line().text, texts, 1, nil); err != nil {
		t.Errorf("P19.1: four tapes of 4000 bytes are refused: %v", err)
	}
}
