package heal_test

import (
	"fmt"
	"hash/crc32"
	"slices"
	"strings"
	"testing"

	"eddy/api"
	"eddy/frame"
	"eddy/heal"
	"eddy/pen"
	"eddy/shape"
)

// wantSum fails the test where the sum isn't that of a text.
func wantSum(t *testing.T, p api.Plan, tapes [][]api.Record, text string) {
	t.Helper()
	for what, want := range map[string]uint32{"frame.Sum": frame.Sum([]byte(text)), "the common sum": crc32.ChecksumIEEE([]byte(text))} {
		if got := heal.Sum(p, tapes); got != want {
			t.Errorf("P17.1: Sum answers %08x, %s of this text is %08x:\n%s", got, what, want, text)
		}
	}
	if got := modelText(p, tapes); got != text {
		t.Errorf("the model: P17.1: the text is\n%s\nwant\n%s", got, text)
	}
}

// TestSumByteByByte: the text is written out.
func TestSumByteByByte(t *testing.T) {
	for _, x := range []struct {
		ground
		text string
	}{
		{line(), `plan 1
task s 1 0
task k 13 0
edge 0 0 1 0
tape
"a" 1
"b" 2
`},
		{sums(), `plan 1
task a 1 0
task f 4 0
expr 0
expr acc+val
task k 13 0
edge 0 0 1 0
edge 1 0 2 0
tape
"x" 1
"x" 2
"y" 3
`},
		{loop(), `plan 1
task s 1 0
task h 11 0
task t 12 2
expr 0
task k 13 0
edge 0 0 1 0
edge 1 0 2 0
edge 2 0 1 1
edge 2 1 3 0
tape
"a" 1
"b" 2
`},
		{mixed(), `plan 1
task l 13 0
task r 1 2
task j 8 0
task s 1 0
task w 9 3
task k 13 0
task e 7 0
task d 10 0
task q 1 0
task m 13 0
task u 5 0
edge 6 1 5 0
edge 3 0 2 1
edge 2 0 4 0
edge 6 2 10 1
edge 4 0 6 0
edge 1 0 2 0
edge 8 0 7 0
edge 10 0 0 0
edge 6 0 9 0
edge 7 0 10 0
tape
"a" 1
"b" 2
tape
tape
"c" 3
`},
		{reads("", "s source 0", "p split val%2", "m map key ; [val,hops]", "x map \"a;b\" ; none", "f filter not(1or key)", "k sink", "l sink", "s.0 p.0", "p.0 m.0", "p.1 x.0", "m.0 f.0", "f.0 k.0", "x.0 l.0"), `plan 1
task s 1 0
task p 6 0
expr val%2
task m 2 0
expr key
expr [val,hops]
task x 2 0
expr "a;b"
expr none
task f 3 0
expr not(1or key)
task k 13 0
task l 13 0
edge 0 0 1 0
edge 1 0 2 0
edge 1 1 3 0
edge 2 0 4 0
edge 4 0 5 0
edge 3 0 6 0
tape
`},
		{reads("/ / /", "s source 3", "k sink", "s.0 k.0"), "plan 1\ntask s 1 3\ntask k 13 0\nedge 0 0 1 0\ntape\ntape\ntape\ntape\n"},
		{reads("/ a=1", "longname source 1", "a1b2c3d4 sink", "longname.0 a1b2c3d4.0"), "plan 1\ntask longname 1 1\ntask a1b2c3d4 13 0\nedge 0 0 1 0\ntape\ntape\n\"a\" 1\n"},
	} {
		wantSum(t, x.plan, x.tapes, x.text)
	}
	// Sum looks at no more than it writes: what isn't there has no line.
	wantSum(t, api.Plan{}, nil, "plan 0\n")
	wantSum(t, api.Plan{Cap: 8}, [][]api.Record{nil, {}}, "plan 8\ntape\ntape\n")
	wantSum(t, api.Plan{Cap: 3, Edges: line().plan.Edges}, nil, "plan 3\nedge 0 0 1 0\n")
	wantSum(t, api.Plan{Cap: 3, Tasks: sums().plan.Tasks[1:2]}, line().tapes, "plan 3\ntask f 4 0\nexpr 0\nexpr acc+val\ntape\n\"a\" 1\n\"b\" 2\n")
}

// TestSumOfQuotedKeysAndValues: as value.Print writes them, keys in quotes too.
func TestSumOfQuotedKeysAndValues(t *testing.T) {
	text := func(s string) api.Value { return api.Value{Kind: api.Text, Text: s} }
	list := func(items ...api.Value) api.Value { return api.Value{Kind: api.List, Items: items} }
	num := func(n int64) api.Value { return api.Value{Kind: api.Int, Int: n} }
	p := line().plan
	head := "plan 1\ntask s 1 0\ntask k 13 0\nedge 0 0 1 0\ntape\n"
	var all []api.Record
	whole := head
	for _, x := range []struct {
		key  string
		val  api.Value
		want string
	}{
		{"", api.Value{}, `"" none`},
		{"a b", num(-7), `"a b" -7`},
		{`a"b\`, text(`"\`), `"a\"b\\" "\"\\"`},
		{"a\nb\t", text("\n\t \r"), `"a\nb\t" "\n\t \x0d"`},
		{"\x00\x7f\xff", text("\x80\xfe"), `"\x00\x7f\xff" "\x80\xfe"`},
		{"é\u0080", text("€\u009f\ufffd"), "\"é\\xc2\\x80\" \"€\\xc2\\x9f\ufffd\""},
		{"twelve bytes", text("a text of 24 bytes, just"), `"twelve bytes" "a text of 24 bytes, just"`},
		{"none", list(), `"none" []`},
		{"1", list(num(1), list(text("[]"), list(api.Value{}))), `"1" [1, ["[]", [none]]]`},
		{"max", num(1<<63 - 1), `"max" 9223372036854775807`},
		{"min", num(-1 << 63), `"min" -9223372036854775808`},
		{"tape", text("tape"), `"tape" "tape"`},
	} {
		r := api.Record{Key: x.key, Val: x.val}
		wantSum(t, p, [][]api.Record{{r}}, head+x.want+"\n")
		all = append(all, r)
		whole += x.want + "\n"
	}
	wantSum(t, p, [][]api.Record{all}, whole)
	wantSum(t, p, [][]api.Record{nil, all}, strings.Replace(whole, "tape\n", "tape\ntape\n", 1))
}

// TestSumOfTheCanon: expressions that differ and have the same Canon have the same sum.
func TestSumOfTheCanon(t *testing.T) {
	of := func(key, val string) api.Plan {
		return api.Plan{Cap: 2, Tasks: []api.Task{{Name: "s", Kind: api.Source}, {Name: "m", Kind: api.Map, Exprs: []string{key, val}}, {Name: "k", Kind: api.Sink}}, Edges: []api.Edge{{From: 0, To: 1}, {From: 1, To: 2}}}
	}
	text := func(key, val string) string {
		return "plan 2\ntask s 1 0\ntask m 2 0\nexpr " + key + "\nexpr " + val + "\ntask k 13 0\nedge 0 0 1 0\nedge 1 0 2 0\ntape\n"
	}
	for _, x := range []struct{ key, val, keyCanon, valCanon string }{
		{"key", "val+1", "key", "val+1"},
		{" ( key )", "val +  001", "key", "val+1"},
		{"((key))", "(val)+(1)", "key", "val+1"},
		{"key", "1+val", "key", "1+val"},
		{`"\x41"+key`, `"\x80"`, `"A"+key`, `"\x80"`},
		{"if (val) then 1 else 2", "not (key)", "if val then1else2", "not key"},
		{"( 1+ 2 )+03", "1+(2+3)", "1+2+3", "1+(2+3)"},
	} {
		if _, _, e := shape.Build(of(x.key, x.val)); e != api.OK {
			t.Fatalf("the plan of %q isn't valid: error %d", x, e)
		}
		tapes := [][]api.Record{nil}
		if got, want := heal.Sum(of(x.key, x.val), tapes), crc32.ChecksumIEEE([]byte(text(x.keyCanon, x.valCanon))); got != want || got != heal.Sum(of(x.keyCanon, x.valCanon), tapes) {
			t.Errorf("P17.1: Sum of a plan with the expressions %q answers %08x, want %08x", x, got, want)
		}
	}
	if heal.Sum(of("key", "val"), nil) == heal.Sum(of("val", "key"), nil) {
		t.Error("P17.1: two expressions in each other's place have one sum")
	}
}

// TestSumOfLongTexts: the text may be longer than a plan's or a tape's may be.
func TestSumOfLongTexts(t *testing.T) {
	p := api.Plan{Cap: 8, Tasks: []api.Task{{Name: "s", Kind: api.Source, Num: 3}}}
	for k := range 10 {
		long := `"` + strings.Repeat(`\x80`, 24) + `"`
		p.Tasks = append(p.Tasks, api.Task{Name: fmt.Sprint("m", k), Kind: api.Map, Exprs: []string{long, strings.Repeat("-", 97) + "val"}})
		p.Edges = append(p.Edges, api.Edge{From: k, To: k + 1})
	}
	p.Tasks = append(p.Tasks, api.Task{Name: "k", Kind: api.Sink})
	p.Edges = append(p.Edges, api.Edge{From: 10, To: 11})
	bytes := api.Value{Kind: api.Text, Text: strings.Repeat("\xff", 24)}
	inner := api.Value{Kind: api.List, Items: []api.Value{bytes, bytes, bytes, bytes}}
	r := api.Record{Key: strings.Repeat("\x01", 12), Val: api.Value{Kind: api.List, Items: []api.Value{inner, inner}}}
	tape := slices.Repeat([]api.Record{r}, 64)
	g := on(p, [][]api.Record{tape, tape, tape, tape})
	text := modelText(g.plan, g.tapes)
	if len(text) < api.MaxPlanText+4*api.MaxTapeText {
		t.Errorf("the text has %d bytes only", len(text))
	}
	wantSum(t, g.plan, g.tapes, text)
	if g.wantFits(t, "P17.2", g.shot(), "parts"); t.Failed() {
		t.Log("a long text is refused")
	}
}

// A change is a ground that differs from another one at one place.
type change struct {
	what string
	ground
}

// changes gives grounds that differ from this one at one place of the plan or of the tapes; not all of their plans are valid.
func changes(g ground) []change {
	var all []change
	add := func(what string, turn func(g *ground)) {
		c := g
		c.plan.Tasks, c.plan.Edges, c.tapes = slices.Clone(g.plan.Tasks), slices.Clone(g.plan.Edges), slices.Clone(g.tapes)
		for k := range c.plan.Tasks {
			c.plan.Tasks[k].Exprs = slices.Clone(c.plan.Tasks[k].Exprs)
		}
		for k := range c.tapes {
			c.tapes[k] = slices.Clone(c.tapes[k])
		}
		turn(&c)
		all = append(all, change{what, c})
	}
	add("another bound", func(g *ground) { g.plan.Cap++ })
	for k, task := range g.plan.Tasks {
		add("another name", func(g *ground) { g.plan.Tasks[k].Name += "x" })
		add("another kind", func(g *ground) { g.plan.Tasks[k].Kind++ })
		if twin, is := map[int]int{api.Map: api.Fold, api.Fold: api.Map, api.Union: api.Dedup, api.Dedup: api.Union}[task.Kind]; is {
			add("a kind that asks for the same", func(g *ground) { g.plan.Tasks[k].Kind = twin })
		}
		add("another number", func(g *ground) { g.plan.Tasks[k].Num++ })
		add("an expression more", func(g *ground) { g.plan.Tasks[k].Exprs = append(g.plan.Tasks[k].Exprs, "0") })
		for n := range task.Exprs {
			add("another expression", func(g *ground) { g.plan.Tasks[k].Exprs[n] = "[" + g.plan.Tasks[k].Exprs[n] + "]" })
			add("an expression less", func(g *ground) { g.plan.Tasks[k].Exprs = slices.Delete(g.plan.Tasks[k].Exprs, n, n+1) })
		}
	}
	for k := range g.plan.Edges {
		add("another beginning", func(g *ground) { g.plan.Edges[k].From++ })
		add("another out port", func(g *ground) { g.plan.Edges[k].Out++ })
		add("another end", func(g *ground) { g.plan.Edges[k].To++ })
		add("another in port", func(g *ground) { g.plan.Edges[k].In++ })
		add("an edge less", func(g *ground) { g.plan.Edges = slices.Delete(g.plan.Edges, k, k+1) })
	}
	add("a tape more", func(g *ground) { g.tapes = append(g.tapes, nil) })
	for k, tape := range g.tapes {
		add("a record more", func(g *ground) { g.tapes[k] = append(g.tapes[k], api.Record{}) })
		if len(tape) == 0 {
			add("a tape less", func(g *ground) { g.tapes = slices.Delete(g.tapes, k, k+1) })
		}
		for n := range tape {
			add("a record less", func(g *ground) { g.tapes[k] = slices.Delete(g.tapes[k], n, n+1) })
			add("another key", func(g *ground) { g.tapes[k][n].Key += "x" })
			add("another value", func(g *ground) {
				g.tapes[k][n].Val = api.Value{Kind: api.List, Items: []api.Value{g.tapes[k][n].Val}}
			})
		}
	}
	return all
}

// TestSumOfOthers: what differs at one place has another text, and another sum; a shot of the one doesn't fit the other.
func TestSumOfOthers(t *testing.T) {
	met := map[string]int{}
	see := func(g ground) {
		sum, text := heal.Sum(g.plan, g.tapes), modelText(g.plan, g.tapes)
		if sum != crc32.ChecksumIEEE([]byte(text)) {
			t.Fatalf("P17.1: %v: Sum answers %08x, want that of\n%s", g, sum, text)
		}
		for _, c := range changes(g) {
			other := modelText(c.plan, c.tapes)
			if got := heal.Sum(c.plan, c.tapes); other == text || got == sum || got != crc32.ChecksumIEEE([]byte(other)) {
				t.Fatalf("P17.7: %v: with %s Sum answers %08x, without it %08x", g, c.what, got, sum)
			}
			sh, _, e := shape.Build(c.plan)
			met[fmt.Sprint(c.what, ", valid: ", e == api.OK)]++
			if e != api.OK {
				continue
			}
			s := api.Shot{Sum: sum, Parts: make([]api.Part, len(c.plan.Tasks))}
			if e := heal.Fits(c.plan, sh, c.tapes, s); e != api.ErrHealSum {
				t.Fatalf("P17.7: %v: with %s the empty shot answers %s", g, c.what, errorTold(e))
			}
		}
	}
	for _, g := range grounds() {
		see(g)
	}
	for seed := range 150 {
		see(seeded(seed).ground())
	}
	wantCases(t, met, 100, "another bound, valid: true", "another name, valid: true", "a kind that asks for the same, valid: true", "another expression, valid: true", "a record less, valid: true", "a record more, valid: true",
		"another key, valid: true", "another value, valid: true", "a tape more, valid: true")
	wantCases(t, met, 20, "another number, valid: true", "a tape less, valid: true", "another kind, valid: false", "an edge less, valid: false", "another in port, valid: false")
}

// TestSumOfOneByte: texts that differ in one byte never have the same sum.
func TestSumOfOneByte(t *testing.T) {
	count := 0
	for seed := range 100 {
		g := seeded(seed).ground()
		sums := map[uint32]string{}
		for _, name := range strings.Split("a b c d e f g h i j k l m n o p q r s t u v w x y z", " ") {
			p := g.plan
			p.Tasks = slices.Clone(p.Tasks)
			p.Tasks[seed%len(p.Tasks)].Name = name
			sum := heal.Sum(p, g.tapes)
			if other, there := sums[sum]; there {
				t.Fatalf("P17.7: %v: with the names %s and %s the sum is %08x", g, name, other, sum)
			}
			sums[sum], count = name, count+1
		}
	}
	if count != 2600 {
		t.Errorf("%d texts were tried", count)
	}
}

// TestSumOfDrawnGrounds: against the model, and the same each time.
func TestSumOfDrawnGrounds(t *testing.T) {
	for seed := range 500 {
		g := seeded(seed).ground()
		for range 2 {
			if got, want := heal.Sum(g.plan, g.tapes), modelSum(g.plan, g.tapes); got != want {
				t.Fatalf("P17.1: %v: Sum answers %08x, want %08x", g, got, want)
			}
		}
	}
	if p := (pen.Seeded(1).Plan()); heal.Sum(p, nil) != modelSum(p, nil) {
		t.Error("P17.1: Sum without tapes is another one")
	}
}
