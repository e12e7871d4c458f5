package plan_test

import (
	"fmt"
	"math/rand"
	"slices"
	"strings"
	"testing"

	"eddy/api"
)

// agrees tells whether a Parse call and the model answer the same of a text, and whether what is taken is written and read back.
func (g tongue) agrees(t *testing.T, s string) (taken bool) {
	t.Helper()
	thing, err := g.parse(s)
	want, fault := g.model(s)
	if got := toldBy(err); got != fault || !same(thing, want) {
		t.Errorf("P6.1 to P6.14: Parse%s(%s) answers %s, %+v, want %s, %+v", g.name, short(s), shown(thing), got, shown(want), fault)
	}
	if err == nil {
		g.writesBack(t, thing)
	}
	return err == nil
}

// writesBack tells whether a Print call and the model write the same, and whether that is read back. What comes of a text has each expression in its one form already.
func (g tongue) writesBack(t *testing.T, thing any) (can bool) {
	t.Helper()
	want, can := modelWritten(thing)
	got, err := written(thing)
	if !can {
		if got != "" || toldBy(err) != (told{0, 0, api.ErrPlanPrint}) {
			t.Errorf("P6.8, P6.11, P6.15: Print%s(%s) answers %s, %v, want ErrPlanPrint", g.name, shown(thing), short(got), err)
		}
		return false
	}
	if err != nil || got != want {
		t.Errorf("P6.8, P6.11, P6.15: Print%s(%s) answers %s, %v, want %s", g.name, shown(thing), short(got), err, short(want))
	}
	back, err := g.parse(got)
	if err != nil || !same(back, canonical(thing)) {
		t.Errorf("P6.9, P6.11, P6.15: Parse%s of what is written, %s, answers %s, %v, want %s", g.name, short(got), shown(back), err, shown(canonical(thing)))
	}
	if again, err := written(back); err != nil || again != got {
		t.Errorf("P6.9, P6.11, P6.15: what is read back is written as %s, %v, want %s", short(again), err, short(got))
	}
	return true
}

// canonical gives a plan with each expression in its one form; all else as it is.
func canonical(thing any) any {
	p, ok := thing.(api.Plan)
	if !ok {
		return thing
	}
	p.Tasks = slices.Clone(p.Tasks)
	for k := range p.Tasks {
		p.Tasks[k].Exprs = slices.Clone(p.Tasks[k].Exprs)
		for n, e := range p.Tasks[k].Exprs {
			p.Tasks[k].Exprs[n] = modelLine{text: e}.canon(0, len(e))
		}
	}
	return p
}

// eachText goes through all texts of up to n of the words, behind a beginning.
func eachText(begin string, words []string, n int, do func(string)) {
	do(begin)
	if n == 0 {
		return
	}
	for _, word := range words {
		eachText(begin+word, words, n-1, do)
	}
}

// TestAllShortTexts: all texts of a few words.
func TestAllShortTexts(t *testing.T) {
	for _, c := range []struct {
		g     tongue
		begin string
		words []string
		n     int
	}{
		{plans(), "", []string{"plan", "task", "edge", "a", "tee", " ", "\n", "#", "0", "1 ", ".", ";", "x\n", "\t"}, 4},
		{plans(), "plan 1\ntask a ", []string{"map", "filter", "tail", " ", ";", "key", "\"", "\\", "3 ", " sink"}, 4},
		{plans(), "plan 1\ntask a map", []string{" ", ";", "\"", "\\", "1", "+"}, 6},
		{plans(), "plan 1\ntask a tee\nedge", []string{" ", "a", ".", "0", "b", "-", "a.1"}, 5},
		{tapes(), "", []string{" ", "\t", "\"", "\\", "a", "1", "[", "#", "\n"}, 5},
		{scripts(), "", []string{"pick ", "post ", "recover ", "arm ", "fail ", "after ", "repeat ", "end ", "0 ", "-2 ", "x ", "\n", "#"}, 4},
		{scripts(), "repeat 2\n", []string{"post\n", "repeat 1\n", "repeat 3\n", "repeat 0\n", "end\n", "end x", " ", "#", "recover 1\n", "post x\n"}, 4},
		{scripts(), "repeat 1999\npost\nend\n", []string{"post\n", "repeat 1\n", "repeat 2\n", "repeat 2000\n", "end\n", "end x\n", " "}, 4},
	} {
		taken := 0
		eachText(c.begin, c.words, c.n, func(s string) {
			if !t.Failed() && c.g.agrees(t, s) {
				taken++
			}
		})
		if taken == 0 {
			t.Errorf("no text behind %q is taken", c.begin)
		}
	}
}

// A maker draws things and texts from a seed.
type maker struct{ *rand.Rand }

func made(seed int64) maker { return maker{rand.New(rand.NewSource(seed))} }

func pickOf[T any](m maker, l ...T) T { return l[m.Intn(len(l))] }

func (m maker) number() int {
	return pickOf(m, 0, 1, 2, 7, 10, 4711, 999999999, m.Intn(100), m.Intn(1000000000))
}

func (m maker) signed() int { return m.number() * pickOf(m, 1, 1, 1, -1) }

func (m maker) expr(deep int) string {
	if deep == 0 {
		return pickOf(m, "key", "val", "acc", "hops", "none", "0", "007", "12", `";"`, `"a;b"`, `"\";"`, `"\\"`, `" "`, `"\x41"`, "[]", "( 1 )")
	}
	a, b := m.expr(deep-1), m.expr(deep-1)
	return pickOf(m, a, a+" + "+b, a+"*"+b, "("+a+")", "not "+"("+a+")", "["+a+" , "+b+"]", "len( "+a+")", "if "+a+" then "+b+" else "+a, "("+a+") == ("+b+")", "at("+a+","+b+")")
}

func (m maker) name() string {
	return string(rune('a'+m.Intn(26))) + pickOf(m, "", "0", "x", "1b", "9999999", "abc")
}

func (m maker) plan() api.Plan {
	p := api.Plan{Cap: m.number()}
	for range m.Intn(13) {
		k := pickOf(m, kindSamples()...)
		task := api.Task{Name: m.name(), Kind: k.task.Kind}
		if taskOf(p, task.Name) >= 0 {
			continue
		}
		for range k.task.Exprs {
			task.Exprs = append(task.Exprs, m.expr(m.Intn(3)))
		}
		if k.task.Num != 0 {
			task.Num = m.number()
		}
		p.Tasks = append(p.Tasks, task)
	}
	for range m.Intn(25) {
		if n := len(p.Tasks); n > 0 {
			p.Edges = append(p.Edges, api.Edge{From: m.Intn(n), Out: m.number(), To: m.Intn(n), In: m.number()})
		}
	}
	return p
}

func (m maker) bytes(most int) string {
	b := make([]byte, m.Intn(most+1))
	for k := range b {
		b[k] = pickOf(m, 'a', '"', '\\', '\n', ' ', '#', 0, 0xff, 0xc3, 0xa9, byte(m.Intn(256)))
	}
	return string(b)
}

func (m maker) value(deep int) api.Value {
	switch m.Intn(4) {
	case 0:
		return num(pickOf(m, 0, -1, 1<<63-1, -1<<63, m.Int63()))
	case 1:
		return text(m.bytes(24))
	case 2:
		v := list()
		for range m.Intn(4) {
			if deep > 0 {
				v.Items = append(v.Items, m.value(deep-1))
			}
		}
		return v
	}
	return api.Value{}
}

func (m maker) tape() []api.Record {
	var l []api.Record
	for range m.Intn(pickOf(m, 4, 20, 65)) {
		l = append(l, api.Record{Key: m.bytes(12), Val: m.value(2)})
	}
	return l
}

func (m maker) step() api.Op {
	op := api.Op{Kind: 1 + m.Intn(9)}
	switch op.Kind {
	case api.OpPick, api.OpSpoil, api.OpFail:
		op.A, op.B = m.signed(), m.signed()*m.Intn(2)
	case api.OpArm:
		op.A = m.signed()
	case api.OpRecover:
		op.A = pickOf(m, 0, 0, 1, 2, 1000000000, m.number())
		for range m.Intn(4) {
			op.Keep = append(op.Keep, m.signed())
		}
	}
	return op
}

func (m maker) script() []api.Op {
	var l []api.Op
	for range m.Intn(pickOf(m, 5, 20, 100)) {
		l = append(l, slices.Repeat([]api.Op{m.step()}, pickOf(m, 1, 1, 2, 3, 4, 1+m.Intn(40)))...)
	}
	return l
}

// thing draws a thing of the tongue.
func (m maker) thing(g tongue) any {
	switch g.name {
	case "Plan":
		return m.plan()
	case "Tape":
		return m.tape()
	}
	return m.script()
}

// TestDrawnThingsAreReadBack: what can be written is read back as it was.
func TestDrawnThingsAreReadBack(t *testing.T) {
	for _, g := range tongues() {
		could := 0
		for seed := range int64(3000) {
			if g.writesBack(t, made(seed).thing(g)) {
				could++
			}
			if t.Failed() {
				t.Fatalf("seed %d", seed)
			}
		}
		if could < 1000 {
			t.Errorf("Print%s writes just %d of the things that are drawn", g.name, could)
		}
	}
}

// spoilt changes one thing in a number or in a list's length.
func (m maker) spoilt(thing any) any {
	n := pickOf(m, -1, 0, 1, 13, 14, -1000000000, 1000000000, 1000000001, 1<<63-1, -1<<63)
	switch x := thing.(type) {
	case api.Plan:
		if x.Cap = pickOf(m, x.Cap, n); len(x.Tasks) > 0 {
			task := &x.Tasks[m.Intn(len(x.Tasks))]
			field := pickOf(m, &task.Num, &task.Kind)
			*field = pickOf(m, *field, n)
			task.Exprs = pickOf(m, task.Exprs, task.Exprs, nil, []string{"key"}, []string{"key", "1 +"}, []string{"1", "val"}, []string{""})
			task.Name = pickOf(m, task.Name, task.Name, x.Tasks[0].Name, "", "A")
		}
		if len(x.Edges) > 0 {
			e := &x.Edges[m.Intn(len(x.Edges))]
			field := pickOf(m, &e.From, &e.To, &e.Out, &e.In)
			*field = pickOf(m, *field, *field, n)
		}
		return x
	case []api.Record:
		if len(x) > 0 {
			r := &x[m.Intn(len(x))]
			r.Key = pickOf(m, r.Key, r.Key, m.bytes(13))
			r.Val = pickOf(m, r.Val, r.Val, m.value(4), text(m.bytes(26)), api.Value{Kind: n})
			r.Loops = pickOf(m, nil, []int{}, []int{1})
		}
		return x
	case []api.Op:
		if len(x) > 0 {
			op := &x[m.Intn(len(x))]
			field := pickOf(m, &op.A, &op.B, &op.Kind)
			*field = pickOf(m, *field, n)
			op.Keep = pickOf(m, op.Keep, op.Keep, []int{n})
		}
		return x
	}
	return thing
}

// TestDrawnThingsThatAreSpoilt: what cannot be written is refused, and nothing else.
func TestDrawnThingsThatAreSpoilt(t *testing.T) {
	for _, g := range tongues() {
		could, all := 0, 6000
		for seed := range int64(all) {
			m := made(seed)
			if g.writesBack(t, m.spoilt(m.thing(g))) {
				could++
			}
			if t.Failed() {
				t.Fatalf("seed %d", seed)
			}
		}
		if could < 300 || could > all-300 {
			t.Errorf("Print%s writes %d of %d things that are spoilt", g.name, could, all)
		}
	}
}

// blurred writes a text with other blanks, lines that are passed over, and zeros ahead of numbers.
func (m maker) blurred(s string) string {
	var all []string
	for _, l := range strings.Split(s, "\n") {
		for m.Intn(6) == 0 {
			all = append(all, pickOf(m, "", "  ", "# x", " #", "#\t\""))
		}
		all = append(all, strings.Repeat(" ", m.Intn(3))+l+strings.Repeat(" ", m.Intn(3)))
	}
	return strings.Join(all, "\n")
}

// edited changes a text at some places.
func (m maker) edited(s string) string {
	for range m.Intn(3) {
		from := m.Intn(len(s) + 1)
		to := min(len(s), from+pickOf(m, 0, 0, 1, 2, 5))
		piece := pickOf(m, "", " ", "  ", "\n", ";", " ; ", ".", "\"", "\\", "#", "0", "9", "-", "x", "a", "\t", "\xff", "end", "\nend\n", "\nrepeat 3\n", "\nrepeat 2000\n", "arm ", "after ", "key", "task ", "edge ", "1234567890", "\nplan 1\n", "\npost\n", "none", "[")
		s = s[:from] + piece + s[to:]
	}
	if all := strings.Split(s, "\n"); m.Intn(4) == 0 {
		a, b := m.Intn(len(all)), m.Intn(len(all))
		all[a], all[b] = all[b], all[a]
		s = strings.Join(all, "\n")
	}
	return s
}

// TestDrawnTexts: texts of drawn things, blurred and edited.
func TestDrawnTexts(t *testing.T) {
	for _, g := range tongues() {
		taken, all := 0, 6000
		for seed := range int64(all) {
			m := made(seed)
			s, _ := modelWritten(m.thing(g))
			if m.Intn(2) == 0 {
				s = m.blurred(s)
			}
			if s = m.edited(s); g.agrees(t, s) {
				taken++
			}
			if t.Failed() {
				t.Fatalf("seed %d", seed)
			}
		}
		if taken < 500 || taken > all-500 {
			t.Errorf("Parse%s takes %d of %d texts", g.name, taken, all)
		}
	}
}

// TestDrawnBlocks: scripts of many repeats, whose sizes are about the bound.
func TestDrawnBlocks(t *testing.T) {
	reasons := map[api.Errno]int{}
	for seed := range int64(3000) {
		m := made(seed)
		var all []string
		open := 0
		for range m.Intn(30) {
			switch n := m.Intn(10); {
			case n < 4:
				all = append(all, fmt.Sprint("repeat ", pickOf(m, 1, 2, 3, 10, 40, 50, 1000, 2000)))
				open++
			case n < 7 && (open > 0 || m.Intn(20) == 0):
				all = append(all, "end")
				open--
			default:
				all = append(all, pickOf(m, "post", "trigger", "recover 1 2", "pick 1 2"))
			}
		}
		for range open {
			if m.Intn(20) > 0 {
				all = append(all, "end")
			}
		}
		s := lines(all...)
		scripts().agrees(t, s)
		_, fault := modelScript(s)
		if reasons[fault.Err]++; t.Failed() {
			t.Fatalf("seed %d", seed)
		}
	}
	for _, e := range []api.Errno{api.OK, api.ErrPlanMany, api.ErrPlanEnd} {
		if reasons[e] < 200 {
			t.Errorf("just %d drawn scripts end with error %d", reasons[e], e)
		}
	}
}
