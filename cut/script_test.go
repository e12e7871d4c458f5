package cut_test

import (
	"fmt"
	"slices"
	"strconv"
	"testing"

	"eddy/api"
	"eddy/equal"
	"eddy/pen"
)

// script draws calls, as a book of the kind answers them.
func (w *writer) script(k kind, count int) []call {
	m := &model{kind: k}
	var all []call
	for range count {
		c := w.call(k, m.Now())
		c.of(m)
		all = append(all, c)
	}
	return all
}

// underway tells where the snapshot of a model stands.
func (m *model) underway() string {
	done, handed := m.done()
	switch {
	case m.Now() == 0:
		return "at first"
	case handed:
		return "behind a part"
	case done:
		return "with a part that is done"
	case m.copyAt() >= 0:
		return "behind the copy"
	}
	return "ahead of the copy"
}

// marking tells which case of P13.4 a marker is, by what the model says ahead of it.
func (m *model) marking(c call) string {
	port := "regular"
	if c.Port == m.back {
		port = "back"
	}
	switch {
	case !m.has(c.Port) || c.Id < 1 || c.Id > api.MaxId || m.Held(c.Port):
		return "refused"
	case c.Id < m.Now():
		return "below, " + m.underway()
	case c.Id > m.Now():
		return port + " begins, " + m.underway()
	case m.closedAt(c.Port) >= 0:
		return "dropped, " + m.underway()
	}
	return port + " closes, " + m.underway()
}

// caseOf tells which case a call is, by what the model says ahead of it.
func (m *model) caseOf(c call) string {
	mode := []string{"", "aligned ", "recorded ", "overtaking "}[m.mode]
	if c.What == "mark" {
		return mode + m.marking(c)
	}
	return mode + c.What + " " + m.underway()
}

// wantCases fails the test where one of the cases is met less often than it is wanted.
func wantCases(t *testing.T, met map[string]int, least int, cases ...string) {
	t.Helper()
	for _, one := range cases {
		if met[one] < least {
			t.Errorf("the case %q is drawn %d times, want %d", one, met[one], least)
		}
	}
}

// allCases gives the cases that the modes have.
func allCases() []string {
	var all []string
	for _, mode := range []string{"aligned ", "recorded ", "overtaking "} {
		for _, where := range []string{"at first", "behind the copy", "with a part that is done", "behind a part", "ahead of the copy"} {
			if mode != "aligned " && where == "ahead of the copy" {
				continue
			}
			all = append(all, mode+"took "+where, mode+"part "+where, mode+"regular begins, "+where, mode+"back begins, "+where)
			if where == "at first" {
				continue
			}
			all = append(all, mode+"below, "+where)
			if where != "ahead of the copy" {
				all = append(all, mode+"dropped, "+where)
			}
		}
		all = append(all, mode+"refused", mode+"back closes, behind the copy")
	}
	return append(all, "aligned regular closes, ahead of the copy", "aligned back closes, ahead of the copy",
		"recorded regular closes, behind the copy", "overtaking regular closes, behind the copy")
}

// TestDrawnScripts: books of all kinds, held against the model and against their own history, with each case counted.
func TestDrawnScripts(t *testing.T) {
	met := map[string]int{}
	for seed := range 2500 {
		w := seeded(seed)
		k := w.kind()
		script := w.script(k, 80)
		m := &model{kind: k}
		for _, c := range script {
			met[m.caseOf(c)]++
			a := c.of(m)
			met[c.What+" "+errorTold(a.Err)]++
			if c.What == "part" && a.Ok {
				met["part"]++
				met["part of logs "+strconv.FormatBool(longest(a.Part) > 1)]++
			}
		}
		if !follow(t, k, script) {
			return
		}
	}
	wantCases(t, met, 50, allCases()...)
	wantCases(t, met, 500, "part", "part of logs true", "part of logs false", "took ok", "took port", "took held", "mark ok", "mark port", "mark mark", "mark held")
}

// longest tells how many records the longest log has.
func longest(p api.Part) int {
	most := 0
	for _, l := range p.Logs {
		most = max(most, len(l))
	}
	return most
}

// lead draws what leads a book far: every port is marked in some order, records are taken between, and the part is asked.
func (w *writer) lead(k kind, id int) []call {
	var all []call
	for _, port := range w.Order(k.ports) {
		for range w.Below(4) {
			all = append(all, call{What: "took", Port: w.Below(k.ports), Rec: w.Record()})
		}
		all = append(all, call{What: "mark", Port: port, Id: id, Ahead: w.Records(2), State: w.State(), Pend: w.Records(2)})
	}
	return append(all, call{What: "part"})
}

// TestEverySnapshotIsDone: where each port's marker comes, in any order, one part is handed out for each id, and none for another.
func TestEverySnapshotIsDone(t *testing.T) {
	for seed := range 300 {
		w := seeded(seed)
		k := w.kind()
		b := k.open(t)
		id := 0
		for range 6 {
			id += w.Between(1, 5)
			copies := 0
			var last answer
			for _, c := range w.lead(k, id) {
				if last = c.of(b); c.What == "mark" && last.Ok {
					copies++
				}
			}
			if copies != 1 || !last.Ok || last.Id != id || len(last.Part.Logs) != k.ports {
				t.Fatalf("P13.5, P13.9: %v: the markers %d came at all ports: %d copies, part %s", k, id, copies, partTold(last))
			}
			if _, _, again := b.Part(); again {
				t.Fatalf("P13.9: %v: a second part of %d", k, id)
			}
		}
	}
}

// refused draws a call that a book refuses at this moment.
func (w *writer) refused(m *model) call {
	for {
		c := w.call(m.kind, m.Now())
		switch w.Below(6) {
		case 0:
			c.Port = pen.One(w.Pen, -1, m.ports)
		case 1:
			c.Id = pen.One(w.Pen, 0, api.MaxId+1)
		}
		tried := model{kind: m.kind, past: slices.Clip(m.past)}
		if c.of(&tried).Err != api.OK {
			return c
		}
	}
}

// TestARefusedCallChangesNothing: a book that refuses calls between answers all others as one without them.
func TestARefusedCallChangesNothing(t *testing.T) {
	met := map[string]int{}
	for seed := range 400 {
		w := seeded(seed)
		k := w.kind()
		b, other, m := k.open(t), k.open(t), &model{kind: k}
		script := w.script(k, 60)
		for n, c := range script {
			for range w.Below(3) {
				bad := w.refused(m)
				a := bad.of(b)
				met[bad.What+" "+errorTold(a.Err)]++
				if a.Err == api.OK || a.Ok {
					t.Fatalf("P13.3, P13.4: %v, %s, %v is answered with %s", k, lastOf(script[:n]), bad, bad.told(a))
				}
			}
			c.of(m)
			if got, want := c.of(b), c.of(other); !same(got, want) {
				t.Fatalf("P13, Rules for all calls: %v, %s: the last answers %s behind refused calls, want %s", k, lastOf(script[:n+1]), c.told(got), c.told(want))
			}
		}
	}
	wantCases(t, met, 300, "took port", "took held", "mark port", "mark mark", "mark held")
}

// TestQuestionsChangeNothing: Held and Now, asked as often as anyone likes.
func TestQuestionsChangeNothing(t *testing.T) {
	for seed := range 300 {
		w := seeded(seed)
		k := w.kind()
		b, other := k.open(t), k.open(t)
		script := w.script(k, 60)
		for n, c := range script {
			for port := range 5 {
				b.Held(port)
				b.Now()
			}
			if got, want := c.of(b), c.of(other); !same(got, want) {
				t.Fatalf("P13.2, P13.6: %v, %s: the last answers %s behind questions, want %s", k, lastOf(script[:n+1]), c.told(got), c.told(want))
			}
		}
	}
}

// TestBooksBesideOneAnother: what one is told the others don't see.
func TestBooksBesideOneAnother(t *testing.T) {
	type pair struct {
		book
		*model
	}
	for seed := range 60 {
		w := seeded(seed)
		var all []pair
		for range 6 {
			k := w.kind()
			all = append(all, pair{k.open(t), &model{kind: k}})
		}
		for range 300 {
			n := w.Below(len(all))
			c := w.call(all[n].kind, all[n].model.Now())
			if _, why := agree(all[n].book, all[n].model, c); why != "" {
				t.Fatalf("P13, Rules for all calls: %v among other books: %v: %s", all[n].kind, c, why)
			}
		}
	}
}

// TestManyRecords: a log is as long as what was taken.
func TestManyRecords(t *testing.T) {
	const many = 1 << 16
	b := kindOf("overtaking 2").open(t)
	b.Mark(1, 1, nil, api.State{}, nil)
	for n := range many {
		if e := b.Took(0, api.Record{Loops: []int{n}}); e != api.OK {
			t.Fatalf("P13.3: record %d: error %d", n, e)
		}
	}
	ahead := make([]api.Record, many)
	for n := range ahead {
		ahead[n].Val.Int = int64(n)
	}
	b.Mark(0, 1, ahead, api.State{}, nil)
	_, p, ok := b.Part()
	if !ok || len(p.Logs) != 2 || len(p.Logs[0]) != 2*many || len(p.Logs[1]) != 0 {
		t.Fatalf("P13.7: of %d records, and as many ahead, the part is %v", many, ok)
	}
	for n := range many {
		if !equal.Record(p.Logs[0][n], api.Record{Loops: []int{n}}) || p.Logs[0][many+n].Val.Int != int64(n) {
			t.Fatalf("P13.7: record %d of the log is %+v, the one %d behind it %+v", n, p.Logs[0][n], many, p.Logs[0][many+n])
		}
	}
}

// TestAllNumbers: markers from 1 to MaxId, one behind the other.
func TestAllNumbers(t *testing.T) {
	for _, of := range []string{"aligned 2", "aligned 2 1", "recorded 2", "overtaking 2"} {
		b := kindOf(of).open(t)
		for id := 1; id <= api.MaxId; id++ {
			first, e := b.Mark(0, id, nil, api.State{Num: id}, nil)
			second, f := b.Mark(1, id, nil, api.State{Num: -id}, nil)
			got, p, ok := b.Part()
			if e != api.OK || f != api.OK || first == second || !ok || got != id || b.Now() != id || p.State.Num != id && first || p.State.Num != -id && second {
				t.Fatalf("P13.4, P13.5: a book %s: marker %d: errors %d and %d, copied %v and %v, part %d %v", of, id, e, f, first, second, got, fmt.Sprint(p, ok))
			}
		}
	}
}
