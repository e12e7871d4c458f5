package scale_test

import (
	"fmt"
	"math"
	"slices"
	"strings"
	"testing"

	"eddy/api"
	"eddy/expr"
	"eddy/pen"
	"eddy/scale"
	"eddy/shape"
	"eddy/stage"
)

// TestSpreadPlans: the task's edges in any order, tasks of each kind that can be spread, one to three bounds, loops.
func TestSpreadPlans(t *testing.T) {
	for _, x := range []struct {
		g    ground
		want string
	}{
		{pairs(), `cap 1 / k 13 0 [] / w 9 2 [] / s 1 0 [] / x0 6 0 ["if key<\"g\"then0else1"] / x1 9 2 [] / x2 5 0 [] / 5.0 0.0 / 2.0 3.0 / 3.0 1.0 / 3.1 4.0 / 1.0 5.0 / 4.0 5.1`},
		{firsts(), `cap 1 / s 1 0 [] / k 13 0 [] / d 10 0 [] / x0 6 0 ["if key<\"b\"then0else if key<\"n\"then1else2"] / x1 10 0 [] / x2 10 0 [] / x3 5 0 []
			/ 0.0 3.0 / 6.0 1.0 / 3.0 2.0 / 3.1 4.0 / 3.2 5.0 / 2.0 6.0 / 4.0 6.1 / 5.0 6.2`},
		{sums().by("a", "b", "c"), `cap 1 / s 1 0 [] / f 4 0 ["0" "acc+val"] / k 13 0 [] / x0 6 0 ["if key<\"a\"then0else if key<\"b\"then1else if key<\"c\"then2else3"]
			/ x1 4 0 ["0" "acc+val"] / x2 4 0 ["0" "acc+val"] / x3 4 0 ["0" "acc+val"] / x4 5 0 []
			/ 0.0 3.0 / 7.0 2.0 / 3.0 1.0 / 3.1 4.0 / 3.2 5.0 / 3.3 6.0 / 1.0 7.0 / 4.0 7.1 / 5.0 7.2 / 6.0 7.3`},
		{loop(), `cap 1 / s 1 0 [] / h 11 0 [] / f 4 0 ["0" "acc+val"] / t 12 2 ["0"] / k 13 0 [] / x0 6 0 ["if key<\"g\"then0else1"] / x1 4 0 ["0" "acc+val"] / x2 5 0 []
			/ 7.0 3.0 / 3.1 4.0 / 3.0 1.1 / 0.0 1.0 / 1.0 5.0 / 5.0 2.0 / 5.1 6.0 / 2.0 7.0 / 6.0 7.1`},
		{fork(), `cap 1 / l 13 0 [] / s 1 0 [] / e 7 0 [] / d 10 0 [] / f 4 0 ["none" "val"] / k 13 0 [] / x0 6 0 ["if key<\"g\"then0else if key<\"p\"then1else2"]
			/ x1 4 0 ["none" "val"] / x2 4 0 ["none" "val"] / x3 5 0 [] / 2.1 6.0 / 3.0 0.0 / 2.0 3.0 / 1.0 2.0 / 9.0 5.0 / 6.0 4.0 / 6.1 7.0 / 6.2 8.0 / 4.0 9.0 / 7.0 9.1 / 8.0 9.2`},
		{fork().at(3).by(""), `cap 1 / l 13 0 [] / s 1 0 [] / e 7 0 [] / d 10 0 [] / f 4 0 ["none" "val"] / k 13 0 [] / x0 6 0 ["if key<\"\"then0else1"]
			/ x1 10 0 [] / x2 5 0 [] / 2.1 4.0 / 8.0 0.0 / 2.0 6.0 / 1.0 2.0 / 4.0 5.0 / 6.0 3.0 / 6.1 7.0 / 3.0 8.0 / 7.0 8.1`},
	} {
		x.g.plan.Cap = 1
		x.g.wantSpread(t, "P21.3", x.want)
	}
	// Another bound of lanes, and expressions that aren't their Canon, are taken over as they are.
	g := sums()
	g.plan.Cap, g.plan.Tasks[1].Exprs = 8, []string{" (0)", "acc + val"}
	g.wantSpread(t, "P21.3", `cap 8 / s 1 0 [] / f 4 0 [" (0)" "acc + val"] / k 13 0 [] / x0 6 0 ["if key<\"g\"then0else1"] / x1 4 0 [" (0)" "acc + val"] / x2 5 0 [] / 0.0 3.0 / 5.0 2.0 / 3.0 1.0 / 3.1 4.0 / 1.0 5.0 / 4.0 5.1`)
}

// TestEdgesInAnyOrder: old edges keep their numbers, wherever the task's own stand.
func TestEdgesInAnyOrder(t *testing.T) {
	for seed := range 50 {
		g := fork()
		w := pen.Seeded(seed)
		order := w.Order(len(g.plan.Edges))
		edges := slices.Clone(g.plan.Edges)
		for k, at := range order {
			g.plan.Edges[at] = edges[k]
		}
		q := g.wide().plan
		for k, e := range edges {
			want := e
			if e.To == g.task {
				want = api.Edge{From: e.From, Out: e.Out, To: 6}
			}
			if e.From == g.task {
				want = api.Edge{From: 9, To: e.To, In: e.In}
			}
			if got := q.Edges[order[k]]; got != want {
				t.Fatalf("P21.3: %v: edge %d becomes %v, want %v", g, order[k], got, want)
			}
		}
	}
}

// TestNamesThatAreTaken: the first that no task has, whichever of them the old tasks have.
func TestNamesThatAreTaken(t *testing.T) {
	g := sums().by("a", "b", "c")
	for names := range pen.Rows([]string{"x0", "x1", "x2", "x3", "x4", "x5", "x7", "x10", "x00", "x", "a"}, 3) {
		if names[0] == names[1] || names[1] == names[2] || names[0] == names[2] {
			continue
		}
		for k, name := range names {
			g.plan.Tasks[k].Name = name
		}
		var want []string
		for k := 0; len(want) < 5; k++ {
			if name := fmt.Sprint("x", k); !slices.Contains(names, name) {
				want = append(want, name)
			}
		}
		q := g.wide().plan
		var got []string
		for _, task := range q.Tasks {
			got = append(got, task.Name)
		}
		if !slices.Equal(got[:3], names) || !slices.Equal(got[3:], want) {
			t.Fatalf("P21.3: tasks named %q are spread to %q", names, got)
		}
	}
}

// TestTasksThatCantBeSpread: each kind, and numbers of no task; ahead of what is wrong with the bounds.
func TestTasksThatCantBeSpread(t *testing.T) {
	g := reads("", "f", "", "s source 0", "m map key ; val", "i filter 1", "u union", "p split val", "e tee", "h head", "t tail 1 ; 1", "k sink", "l sink", "j join",
		"s.0 m.0", "m.0 i.0", "i.0 u.0", "u.0 p.0", "p.0 e.0", "e.0 h.0", "h.0 t.0", "t.0 h.1", "t.1 j.0", "e.1 j.1", "j.0 k.0", "e.2 l.0")
	kinds := map[int]bool{}
	for task := -3; task < len(g.plan.Tasks)+3; task++ {
		for _, bounds := range [][]string{nil, {"g"}, {"g", "g"}, {"a", "b", "c", "d"}, {"abcdefghijklm"}} {
			g.at(task).by(bounds...).wantSpread(t, "P21.2, 2", "error 200")
		}
		if task >= 0 && task < len(g.plan.Tasks) {
			kinds[g.plan.Tasks[task].Kind] = true
		}
	}
	if len(kinds) != 10 {
		t.Errorf("the tasks have %d kinds", len(kinds))
	}
	for _, task := range []int{math.MinInt, math.MaxInt, 1 << 32, -1 << 32} {
		sums().at(task).by().wantSpread(t, "P21.2, 2", "error 200")
		sums().at(task).wantSpread(t, "P21.2, 2", "error 200")
	}
	for task, want := range []string{"error 200", "error 201", "error 200", "error 200"} {
		sums().at(task).by().wantSpread(t, "P21.2, 2", want)
	}
}

// refusedPlans gives a plan for each error of shape.Build.
func refusedPlans() map[string]api.Plan {
	with := func(change func(p *api.Plan)) api.Plan {
		p := sums().plan
		change(&p)
		return p
	}
	back := loop().plan
	back.Edges = slices.Clone(back.Edges)
	back.Edges[2], back.Edges[4] = api.Edge{From: 3, To: 2}, api.Edge{From: 1, To: 1, In: 1}
	return map[string]api.Plan{
		"error 70": {},
		"error 71": with(func(p *api.Plan) { p.Tasks[0].Name = "F" }),
		"error 72": with(func(p *api.Plan) { p.Tasks[1].Num = 1 }),
		"error 73": with(func(p *api.Plan) { p.Tasks[1].Exprs = p.Tasks[1].Exprs[:1] }),
		"error 74": with(func(p *api.Plan) { p.Edges[0].In = 4 }),
		"error 75": with(func(p *api.Plan) { p.Edges = p.Edges[:1] }),
		// A keyed task at a back edge is one of a plan that is none: such an edge goes from a tail to a head.
		"error 76": back,
		"error 77": pen.ReadPlan("s source 0", "f fold 0 ; acc", "u union", "e tee", "k sink", "s.0 u.0", "u.0 f.0", "f.0 e.0", "e.0 k.0", "e.1 u.1"),
	}
}

// TestSpreadErrors: each error ahead of the next, whatever stands behind it.
func TestSpreadErrors(t *testing.T) {
	taken := sums().plan
	bounds := map[string][]string{"": {"g"}, "none": nil, "falling": {"p", "g"}, "long": {"abcdefghijklm"}}
	for want, p := range refusedPlans() {
		for _, task := range []int{-1, 0, 1, 2, 99} {
			for _, b := range bounds {
				ground{plan: p, task: task, bounds: b}.wantSpread(t, "P21.2, 1", want)
			}
		}
	}
	for _, b := range bounds {
		ground{plan: taken, task: 0, bounds: b}.wantSpread(t, "P21.2, 2", "error 200")
		ground{plan: great(10), task: 0, bounds: b}.wantSpread(t, "P21.2, 2", "error 200")
	}
	for name, b := range bounds {
		if name != "" {
			ground{plan: taken, task: 1, bounds: b}.wantSpread(t, "P21.2, 3", "error 201")
			ground{plan: great(10), task: 1, bounds: b}.wantSpread(t, "P21.2, 3", "error 201")
		}
	}
	ground{plan: great(10), task: 1, bounds: []string{"g"}}.wantSpread(t, "P21.2, 4", "error 70")
}

// TestBackEdgesAtTheTask: a plan whose keyed task has one is refused.
func TestBackEdgesAtTheTask(t *testing.T) {
	for _, edges := range []string{"s.0 h.0, h.0 t.0, t.0 f.0, f.0 h.1, t.1 k.0", "s.0 f.0, f.0 h.1, h.0 t.0, t.0 h.0, t.1 k.0", "s.0 t.0, t.0 f.0, f.0 h.0, t.1 h.1, h.0 k.0"} {
		g := reads("", "f", "g", append([]string{"s source 0", "h head", "f fold 0 ; acc+val", "t tail 0 ; 2", "k sink"}, strings.Split(edges, ", ")...)...)
		g.wantSpread(t, "P21.2, 1", "error 76")
	}
}

// great gives a plan of a line of so many tasks, the second of which is keyed.
func great(tasks int) api.Plan {
	lines := []string{"s source 0", "f fold 0 ; acc+val"}
	last := "f"
	edges := []string{"s.0 f.0"}
	for k := 2; k < tasks-1; k++ {
		name := fmt.Sprint("m", k)
		lines, edges = append(lines, name+" filter 1"), append(edges, last+".0 "+name+".0")
		last = name
	}
	return pen.ReadPlan(append(append(lines, "k sink"), append(edges, last+".0 k.0")...)...)
}

// TestGreatestPlans: as many tasks as there may be, and one more.
func TestGreatestPlans(t *testing.T) {
	all := []string{"g", "n", "t"}
	for tasks := 3; tasks <= api.MaxTasks; tasks++ {
		for count := 1; count <= 3; count++ {
			g := ground{plan: great(tasks), task: 1, bounds: all[:count]}
			q, e := scale.Spread(g.plan, g.task, g.bounds...)
			if fits := tasks+count+2 <= api.MaxTasks; fits != (e == api.OK) || fits != (len(q.Tasks) == tasks+count+2) || !fits && e != api.ErrShapeSize {
				t.Errorf("P21.2, 4: %d tasks, %d bounds: error %d, %d tasks", tasks, count, int(e), len(q.Tasks))
			}
		}
	}
	// The most edges that a plan with room for two copies has.
	g := reads("", "f", "g", "s source 0", "a tee", "b tee", "c tee", "u union", "v union", "w union", "f fold 0 ; acc+val", "k sink",
		"s.0 a.0", "a.0 b.0", "a.1 c.0", "a.2 u.0", "a.3 u.1", "b.0 u.2", "b.1 u.3", "b.2 v.0", "b.3 v.1", "c.0 v.2", "c.1 v.3", "c.2 w.0", "c.3 w.1", "u.0 w.2", "v.0 w.3", "w.0 f.0", "f.0 k.0")
	if q := g.wide().plan; len(q.Tasks) != 12 || len(q.Edges) != 21 {
		t.Errorf("P21.3: %d tasks, %d edges", len(q.Tasks), len(q.Edges))
	}
	// As many edges as there may be, and no room for copies.
	g = reads("", "f", "g", "s source 0", "a tee", "b tee", "c tee", "d tee", "u union", "v union", "w union", "x union", "y union", "f fold 0 ; acc+val", "k sink",
		"s.0 a.0", "a.0 b.0", "a.1 c.0", "a.2 u.0", "a.3 u.1", "b.0 u.2", "b.1 u.3", "b.2 d.0", "b.3 v.1", "c.0 v.2", "c.1 v.3", "c.2 w.0", "c.3 w.1", "u.0 w.2", "v.0 w.3",
		"d.0 v.0", "d.1 x.0", "d.2 x.1", "d.3 x.2", "w.0 x.3", "x.0 y.0", "y.0 f.0", "f.0 k.0")
	if len(g.plan.Edges) < 23 {
		t.Errorf("the plan has %d edges", len(g.plan.Edges))
	}
	g.wantSpread(t, "P21.2, 4", "error 70")
}

// TestBounds: how many, how long, and in which order.
func TestBounds(t *testing.T) {
	long := strings.Repeat("a", api.MaxKey)
	for _, x := range []struct {
		bounds []string
		ok     bool
	}{
		{nil, false}, {[]string{}, false}, {[]string{"g"}, true}, {[]string{""}, true}, {[]string{"", "\x00"}, true}, {[]string{"", ""}, false}, {[]string{"g", ""}, false},
		{[]string{"a", "b", "c"}, true}, {[]string{"a", "b", "c", "d"}, false}, {[]string{"a", "a", "c"}, false}, {[]string{"a", "c", "c"}, false}, {[]string{"a", "c", "b"}, false}, {[]string{"b", "a", "c"}, false},
		{[]string{long}, true}, {[]string{long + "a"}, false}, {[]string{"a", long + "a"}, false}, {[]string{long + "a", "b"}, false}, {[]string{long[1:], long}, true}, {[]string{long, long[1:]}, false},
		{[]string{"\xff", "z"}, false}, {[]string{"z", "\xff"}, true}, {[]string{"\x7f", "\x80"}, true}, {[]string{"A", "a"}, true}, {[]string{"a", "A"}, false}, {[]string{"ab", "a"}, false}, {[]string{"a", "ab"}, true},
		{[]string{strings.Repeat("z", 1<<20)}, false}, {slices.Repeat([]string{"g"}, 1<<16), false},
	} {
		g := sums().by(x.bounds...)
		want := api.OK
		if !x.ok {
			want = api.ErrScaleBounds
		}
		for _, c := range both() {
			if q, e := c.spread(g.plan, g.task, g.bounds...); e != want || x.ok != (len(q.Tasks) == 5+len(x.bounds)) {
				t.Errorf("%sP21.2, 3: %.100q: error %d, want %d", c.name, x.bounds, int(e), int(want))
			}
		}
	}
}

// TestLongExpressions: of 100 bytes and of 101, by two bounds and by three, with each way in which a byte is written.
func TestLongExpressions(t *testing.T) {
	hex := strings.Repeat("\x01", api.MaxKey)
	met := map[int]int{}
	for _, last := range []string{"\x02\x02\x02aa", "\x02\x02\x02a\n", "\x02\x02\x02\"\"", "\x02\x02\x02", "\xff\xff\xff\\", "\xff\xff\xff\\a", "\xff\xff\xff~~", "\xff\xff\xff~~~", "\xff\xff\xff~\t", "zzzzzzzzzzz", "\x7f\x7f\x7f\x7f", "\x7f\x7f\x7f  ", "\x7f\x7f\x7f   "} {
		for _, bounds := range [][]string{{hex, last}, {"\x01\x01\x01\x01", "\x01\x01\x01\x01\x01", last}, {"a\x00", "b\x00\x00\x00\x00\x00", "c" + last}} {
			if !slices.IsSorted(bounds) {
				continue
			}
			text := modelChoice(bounds)
			met[len(text)]++
			q, e := scale.Spread(sums().plan, 1, bounds...)
			switch {
			case len(text) > api.MaxExpr && e != api.ErrScaleBounds:
				t.Errorf("P21.2, 3: an expression of %d bytes: error %d", len(text), int(e))
			case len(text) <= api.MaxExpr && (e != api.OK || q.Tasks[3].Exprs[0] != text):
				t.Errorf("P21.4: the bounds %q: error %d, %v, want %s", bounds, int(e), q.Tasks, text)
			}
		}
	}
	if met[100] == 0 || met[101] == 0 {
		t.Errorf("the expressions have %v bytes", met)
	}
}

// TestExactlyTooLong: two bounds and three, of which the last one grows byte by byte.
func TestExactlyTooLong(t *testing.T) {
	for _, first := range [][]string{{strings.Repeat("\x01", 12)}, {"\x01\x01\x01\x01", "\x01\x01\x01\x01\x01"}, {"\n\t\\\"\n\t\\\"\n\t\\\"", "\x1f\x1f"}} {
		for n := range api.MaxKey + 1 {
			bounds := append(slices.Clone(first), "z"+strings.Repeat("b", n))
			g := sums().by(bounds...)
			text := modelChoice(bounds)
			want := "error 201"
			if len(text) <= 100 && n < api.MaxKey {
				want = text
			}
			q, e := scale.Spread(g.plan, g.task, g.bounds...)
			got := errorTold(e)
			if e == api.OK {
				got = q.Tasks[3].Exprs[0]
			}
			if got != want {
				t.Errorf("P21.2, 3: the bounds %q: %s, want %s", bounds, got, want)
			}
		}
	}
}

// TestExpressions: how each byte is written, and what the expression is worth.
func TestExpressions(t *testing.T) {
	for bound, want := range map[string]string{
		"g": `if key<"g"then0else1`, "": `if key<""then0else1`, "\"": `if key<"\""then0else1`, "\\": `if key<"\\"then0else1`, "\n\t": `if key<"\n\t"then0else1`, "\r\x00": `if key<"\x0d\x00"then0else1`,
		" ~": `if key<" ~"then0else1`, "\x1f\x20\x7e\x7f": `if key<"\x1f ~\x7f"then0else1`, "\x80\xff": `if key<"\x80\xff"then0else1`, "é": `if key<"\xc3\xa9"then0else1`, "then0else1": `if key<"then0else1"then0else1`,
		"\\x41": `if key<"\\x41"then0else1`, "';#": `if key<"';#"then0else1`,
	} {
		if got := sums().by(bound).wide().plan.Tasks[3].Exprs; len(got) != 1 || got[0] != want {
			t.Errorf("P21.4: the bound %q: %q, want %q", bound, got, want)
		}
	}
	for c := range 256 {
		bound := "a" + string([]byte{byte(c)})
		text := sums().by(bound).wide().plan.Tasks[3].Exprs[0]
		if text != modelChoice([]string{bound}) {
			t.Errorf("P21.4: the bound %q: %q", bound, text)
		}
		wantWorth(t, []string{bound}, text, "a", "a\x00", bound, bound+"\x00", "a\xff", "b", string([]byte{'a', byte(max(c, 1) - 1), 0xff}))
	}
}

// wantWorth fails the test where a split's expression isn't its own Canon, or isn't worth the place of a key.
func wantWorth(t *testing.T, bounds []string, text string, keys ...string) {
	t.Helper()
	if canon, err := expr.Canon(text); err != nil || canon != text {
		t.Errorf("P21.4: the bounds %q: Canon of %q is %q, %v", bounds, text, canon, err)
	}
	op, e := stage.New(api.Task{Kind: api.Split, Exprs: []string{text}}, 1, len(bounds)+1)
	if e != api.OK {
		t.Errorf("P21.4: the bounds %q: no split: error %d", bounds, int(e))
		return
	}
	for _, key := range keys {
		r := api.Record{Key: key, Val: api.Value{Kind: api.Text, Text: "x"}}
		v, err := expr.Eval(text, r, api.Value{})
		place := scale.Place(key, bounds...)
		if err != nil || v.Kind != api.Int || v.Int != int64(place) {
			t.Errorf("P21.4: the bounds %q: %s is worth %v for the key %q, want %d", bounds, text, v, key, place)
		}
		if _, sends, e := op.Step(api.State{}, 0, r); e != api.OK || len(sends) != 1 || sends[0].Out != place {
			t.Errorf("P21.4: the bounds %q: the key %q goes out as %v, want port %d", bounds, key, sends, place)
		}
	}
}

// TestDrawnSpreads: drawn plans, tasks and bounds, right ones and not, against the model; what is taken is a valid plan whose split sends each key to its place.
func TestDrawnSpreads(t *testing.T) {
	met := map[string]int{}
	for seed := range 3000 {
		w := seeded(seed)
		p := pen.One(w.Pen, w.Plan(), w.Lean())
		g := ground{plan: p, task: w.Between(-1, len(p.Tasks)), bounds: w.someBounds()}
		if tasks := keyed(p); len(tasks) > 0 && w.Below(5) > 0 {
			g.task = tasks[w.Below(len(tasks))]
		}
		switch w.Below(12) {
		case 0:
			slices.Reverse(g.bounds)
		case 1:
			g.bounds = append(g.bounds, w.bound())
		case 2:
			p.Tasks[w.Below(len(p.Tasks))].Num++
		case 3:
			p.Edges[w.Below(len(p.Edges))].In++
		}
		got, want := layer().spreads(g), model().spreads(g)
		if got != want {
			t.Fatalf("P21.2 to P21.4: seed %d: %v: Spread answers\n%s, want\n%s", seed, g, got, want)
		}
		q, e := scale.Spread(g.plan, g.task, g.bounds...)
		met[errorTold(e)]++
		if e != api.OK {
			continue
		}
		if _, at, e := shape.Build(q); e != api.OK {
			t.Fatalf("P21.2: %v: the spread plan is refused: error %d at %d", g, int(e), at)
		}
		wantWorth(t, g.bounds, q.Tasks[len(p.Tasks)].Exprs[0], append(slices.Clone(g.bounds), w.bound(), w.bound(), w.Key(4), "")...)
	}
	wantCases(t, met, 100, "error 0", "error 200", "error 201", "error 70")
	wantCases(t, met, 20, "error 72", "error 75")
}
