package post_test

import (
	"fmt"
	"slices"
	"testing"

	"eddy/api"
	"eddy/equal"
	"eddy/pen"
)

// where tells where the last snapshot of a model stands.
func (m *model) where() string {
	gathered, waiting := m.handed()
	switch status := m.Status(m.next() - 1); {
	case status == 0:
		return "at first"
	case status > 1:
		return []string{2: "behind a ready one", 3: "behind a complete one", 4: "behind an aborted one"}[status]
	case len(gathered) > 0 && len(waiting) > 0:
		return "with both"
	case len(gathered) > 0:
		return "with gathered parts"
	case len(waiting) > 0:
		return "with waiting parts"
	}
	return "without parts"
}

// handing tells which case of P14.3 a call is, by what the model says ahead of it.
func (m *model) handing(c call) string {
	gathered, waiting := m.handed()
	switch {
	case c.Task < 0:
		return "task below"
	case c.Task >= m.tasks:
		return "task above"
	case m.under() == 0:
		return "other, " + m.where()
	case c.Id != m.under():
		return "other, below: " + fmt.Sprint(c.Id < m.under())
	case among(gathered, c.Task) >= 0:
		return "twice, gathered"
	case among(waiting, c.Task) >= 0:
		return "twice, waiting"
	}
	return m.where()
}

// caseOf tells which case a call is, by what the model says ahead of it.
func (m *model) caseOf(c call) string {
	switch c.What {
	case "hand":
		return "hand " + m.handing(c)
	case "settle":
		return fmt.Sprint("settle ", m.Status(c.Id), " ", c.Ok)
	case "status":
		return fmt.Sprint("status ", m.Status(c.Id))
	case "trigger":
		if m.next() > api.MaxId {
			return "trigger used up, " + m.where()
		}
	}
	return c.What + " " + m.where()
}

// allCases gives the cases that are to be drawn.
func allCases() []string {
	over := []string{"at first", "behind a ready one", "behind a complete one", "behind an aborted one"}
	var all []string
	for _, what := range []string{"trigger ", "pick ", "abort ", "open "} {
		for _, place := range append(over, "without parts", "with waiting parts", "with gathered parts", "with both") {
			all = append(all, what+place)
		}
	}
	for _, place := range over {
		all = append(all, "hand other, "+place, "trigger used up, "+place)
	}
	for status := range 5 {
		all = append(all, fmt.Sprint("status ", status), fmt.Sprint("settle ", status, " true"), fmt.Sprint("settle ", status, " false"))
	}
	return append(all, "trigger used up, without parts", "trigger used up, with waiting parts", "hand task below", "hand task above", "hand other, below: true", "hand other, below: false",
		"hand twice, gathered", "hand twice, waiting", "hand without parts", "hand with waiting parts", "hand with gathered parts", "hand with both")
}

// wantCases fails the test where one of the cases is met less often than it is wanted.
func wantCases(t *testing.T, met map[string]int, least int, cases ...string) {
	t.Helper()
	for _, one := range cases {
		if met[one] < least {
			t.Errorf("the case %q is drawn %d times, want %d", one, met[one], least)
		}
	}
}

// TestDrawnScripts: coordinators of all kinds, held against the model and against their own history, with each case counted.
func TestDrawnScripts(t *testing.T) {
	met := map[string]int{}
	for seed := range 1100 {
		w := seeded(seed)
		k := w.kind()
		script := w.script(k, 60+10*k.tasks)
		m := &model{kind: k}
		for _, c := range script {
			met[m.caseOf(c)]++
			if a := c.of(m); c.What == "pick" {
				met[fmt.Sprint("pick: ", a.Number)]++
				met[fmt.Sprint("shot of ", len(a.Shot.Parts))]++
			}
		}
		if !follow(t, k, script) {
			return
		}
	}
	wantCases(t, met, 30, allCases()...)
	wantCases(t, met, 300, "pick: 0", "pick: 1", "pick: 2", "shot of 1", "shot of 2", "shot of 3", "shot of 4")
	wantCases(t, met, 20, "shot of 5", "shot of 8", "shot of 12")
}

// orders gives all orders of the numbers from 0 to n - 1.
func orders(n int) [][]int {
	var numbers []int
	for k := range n {
		numbers = append(numbers, k)
	}
	var all [][]int
	for row := range pen.Rows(numbers, n) {
		if sorted := slices.Sorted(slices.Values(row)); slices.Equal(sorted, numbers) {
			all = append(all, slices.Clone(row))
		}
	}
	return all
}

// TestEveryOrder: the parts come in every order and are picked at every moment at which they can be: the shot is the same, with as many picks as there are tasks.
func TestEveryOrder(t *testing.T) {
	for tasks := 1; tasks <= 4; tasks++ {
		k := kind{tasks, 3, 8}
		want := api.Shot{Id: 3, Sum: 8}
		for task := range tasks {
			want.Parts = append(want.Parts, part(string(rune('A'+task))))
		}
		for _, order := range orders(tasks) {
			for late := range pen.Rows([]int{0, 1, 2}, tasks) {
				if got, picks := comes(t, k, want, order, late); picks != tasks || !equal.Shot(got, want) {
					t.Errorf("P14.9, P14.10: %v: the parts come in the order %v, with %v picks behind each: the shot is %s behind %d picks", k, order, late, shotTold(got), picks)
				}
			}
		}
	}
}

// comes lets the parts of a shot come in an order, with so many tries of a pick behind each, and then picks the rest; it tells the shot and the picks that took something.
func comes(t *testing.T, k kind, want api.Shot, order, tries []int) (api.Shot, int) {
	p := k.open(t)
	p.Trigger()
	picks := 0
	pick := func() (bool, api.Shot) {
		did, shot := p.Pick()
		if did > 0 {
			picks++
		}
		return did == 2, shot
	}
	for n, task := range order {
		p.Hand(k.first, task, want.Parts[task])
		for range tries[n] {
			if ready, shot := pick(); ready {
				return shot, picks
			}
		}
	}
	for range k.tasks {
		if ready, shot := pick(); ready {
			return shot, picks
		}
	}
	return api.Shot{}, picks
}

// TestEverySnapshotIsReady: as many picks as tasks, one snapshot behind the other, some given up in between.
func TestEverySnapshotIsReady(t *testing.T) {
	for seed := range 300 {
		w := seeded(seed)
		k := kind{w.Between(1, api.MaxTasks), w.Between(1, 9000), uint32(w.Below(1 << 32))}
		p := k.open(t)
		for id := k.first; id < k.first+6; id++ {
			script := w.lead(k, id)
			given := w.Below(3) == 0
			if given {
				script = append(script[:w.Between(1, len(script)-1)], call{What: "abort"})
			}
			h := make(history, 0, len(script))
			for _, c := range script {
				h = append(h, step{c, c.of(p)})
			}
			last := h[len(h)-1]
			if given && (last.Number != id || last.Err != api.OK || p.Status(id) != 4) {
				t.Fatalf("P14.5: %v: abort of %d answers %s, and its status is %d", k, id, last.told(last.answer), p.Status(id))
			}
			if !given && (last.Number != 2 || last.Shot.Id != id || p.Status(id) != 2 || h.shotFault(k) != "") {
				t.Fatalf("P14.9, P14.10: %v: the last pick for %d answers %s: %s", k, id, last.told(last.answer), h.shotFault(k))
			}
		}
	}
}

// refused draws a call that a coordinator refuses at this moment.
func (w *writer) refused(m *model) call {
	for {
		c := w.call(m)
		if w.Below(4) == 0 {
			c = call{What: pen.One(w.Pen, "trigger", "abort", "settle"), Id: w.id(m)}
		}
		tried := model{kind: m.kind, past: slices.Clip(m.past)}
		if c.of(&tried).Err != api.OK {
			return c
		}
	}
}

// TestARefusedCallChangesNothing: a coordinator that refuses calls between answers all others as one without them.
func TestARefusedCallChangesNothing(t *testing.T) {
	met := map[string]int{}
	for seed := range 400 {
		w := seeded(seed)
		k := w.kind()
		p, other, m := k.open(t), k.open(t), &model{kind: k}
		script := w.script(k, 60)
		for n, c := range script {
			for range w.Below(3) {
				bad := w.refused(m)
				a := bad.of(p)
				met[bad.What+" "+errorTold(a.Err)]++
				if a.Err == api.OK || a.Number != 0 {
					t.Fatalf("P14.2, P14.3, P14.5, P14.6: %v, %s, %v is answered with %s", k, lastOf(script[:n]), bad, bad.told(a))
				}
			}
			c.of(m)
			if got, want := c.of(p), c.of(other); !same(got, want) || !slices.Equal(statuses(p, k), statuses(other, k)) {
				t.Fatalf("P14, Rules for all calls: %v, %s: the last answers %s behind refused calls, want %s", k, lastOf(script[:n+1]), c.told(got), c.told(want))
			}
		}
	}
	wantCases(t, met, 200, "trigger under", "trigger ids", "hand other", "hand task", "hand twice", "abort none", "settle not ready")
}

// TestQuestionsChangeNothing: Status and Open, asked as often as anyone likes, and a pick of an empty inbox.
func TestQuestionsChangeNothing(t *testing.T) {
	for seed := range 300 {
		w := seeded(seed)
		k := w.kind()
		p, other, m := k.open(t), k.open(t), &model{kind: k}
		script := w.script(k, 60)
		for n, c := range script {
			for range 3 {
				statuses(p, k)
				p.Open()
			}
			if _, waiting := m.handed(); len(waiting) == 0 {
				p.Pick()
			}
			c.of(m)
			if got, want := c.of(p), c.of(other); !same(got, want) {
				t.Fatalf("P14.4, P14.7: %v, %s: the last answers %s behind questions, want %s", k, lastOf(script[:n+1]), c.told(got), c.told(want))
			}
		}
	}
}

// TestCoordinatorsBesideOneAnother: what one is told the others don't see.
func TestCoordinatorsBesideOneAnother(t *testing.T) {
	type pair struct {
		coordinator
		*model
	}
	for seed := range 60 {
		w := seeded(seed)
		var all []pair
		for range 6 {
			k := w.kind()
			all = append(all, pair{k.open(t), &model{kind: k}})
		}
		for range 400 {
			n := w.Below(len(all))
			c := w.call(all[n].model)
			if _, why := agree(all[n].coordinator, all[n].model, c); why != "" {
				t.Fatalf("P14, Rules for all calls: %v among other coordinators: %v: %s", all[n].kind, c, why)
			}
		}
	}
}

// TestAllNumbers: snapshots from 1 to MaxId, one behind the other, each with another end; all are known to the last.
func TestAllNumbers(t *testing.T) {
	p := kind{1, 1, 6}.open(t)
	ends := func(id int) int { return []int{2, 3, 4, 4}[id%4] }
	for id := 1; id <= api.MaxId; id++ {
		if got, e := p.Trigger(); got != id || e != api.OK {
			t.Fatalf("P14.2, P14.8: trigger %d answers %d, error %d", id, got, e)
		}
		p.Hand(id, 0, api.Part{State: api.State{Num: -id}})
		if id%4 == 3 {
			p.Abort()
			continue
		}
		if did, s := p.Pick(); did != 2 || s.Id != id || s.Sum != 6 || len(s.Parts) != 1 || s.Parts[0].State.Num != -id {
			t.Fatalf("P14.4: pick for %d answers %d and %+v", id, did, s)
		}
		if id%4 > 0 {
			p.Settle(id, ends(id) == 3)
		}
	}
	if id, e := p.Trigger(); id != 0 || e != api.ErrPostIds {
		t.Errorf("P14.2: behind the last number a trigger answers %d, error %d", id, e)
	}
	for id := 1; id <= api.MaxId; id++ {
		if got := p.Status(id); got != ends(id) {
			t.Fatalf("P14.7: the status of %d is %d, want %d", id, got, ends(id))
		}
	}
	for id := 4; id <= api.MaxId; id += 4 {
		if e := p.Settle(id, true); e != api.OK || p.Status(id) != 3 {
			t.Fatalf("P14.6: Settle(%d, true) answers error %d, the status is %d", id, e, p.Status(id))
		}
	}
}
