package plan_test

import (
	"fmt"
	"slices"
	"strings"
	"testing"

	"eddy/api"
)

func post(n int) []api.Op { return slices.Repeat([]api.Op{{Kind: api.OpPost}}, n) }

func TestScriptExamples(t *testing.T) {
	g := scripts()
	three := []api.Op{{Kind: 1, B: -1}, {Kind: 1, B: -1}, {Kind: 9, Keep: []int{3, 0}}}
	g.wantThing(t, "P6, example 6", lines("repeat 2", "pick 0 -1", "end", "recover 3 -0"), three)
	g.wantText(t, "P6, example 6", three, lines("pick 0 -1", "pick 0 -1", "recover 3 0", ""), nil)
	g.wantThing(t, "P6, example 7", "fail 2 after 3", []api.Op{{Kind: api.OpFail, A: 2, B: 3}})
	g.wantThing(t, "P6, example 7", "fail 2 after 0", []api.Op{{Kind: api.OpFail, A: 2}})
	g.wantText(t, "P6, example 7", []api.Op{{Kind: api.OpFail, A: 2}}, "fail 2\n", nil)
	g.wantFault(t, "P6, example 7", "fail 2 3", 1, 7, api.ErrPlanWord)
	g.wantFault(t, "P6, example 7", "fail 2 after", 1, 12, api.ErrPlanNumber)
	g.wantFault(t, "P6, example 8", "repeat 0", 1, 7, api.ErrPlanNumber)
	g.wantFault(t, "P6, example 8", "repeat 3", 1, 0, api.ErrPlanEnd)
	g.wantFault(t, "P6, example 8", "end", 1, 0, api.ErrPlanEnd)
	g.wantFault(t, "P6, example 8", "pick 1", 1, 6, api.ErrPlanNumber)
}

func TestSteps(t *testing.T) {
	g := scripts()
	all, want := []string{}, []api.Op{}
	for _, c := range []struct {
		text string
		step api.Op
	}{
		{"pick 1 2", api.Op{Kind: 1, A: 1, B: 2}}, {"  pick   -3   -0  ", api.Op{Kind: 1, A: -3}}, {"trigger", api.Op{Kind: 2}}, {"post", api.Op{Kind: 3}}, {"abort", api.Op{Kind: 4}}, {"crash", api.Op{Kind: 5}}, {"arm 7", api.Op{Kind: 6, A: 7}}, {"arm -7", api.Op{Kind: 6, A: -7}},
		{"fail 2", api.Op{Kind: 7, A: 2}}, {"fail -2", api.Op{Kind: 7, A: -2}}, {"fail 2 after 3", api.Op{Kind: 7, A: 2, B: 3}}, {"fail -0 after -3", api.Op{Kind: 7, B: -3}}, {"fail 1 after -0", api.Op{Kind: 7, A: 1}}, {"spoil -1 999999999", api.Op{Kind: 8, A: -1, B: 999999999}},
		{"recover", api.Op{Kind: 9}}, {"recover 5", api.Op{Kind: 9, Keep: []int{5}}}, {"recover 5 -5 0 -0 007", api.Op{Kind: 9, Keep: []int{5, -5, 0, 0, 7}}}, {"recover arm 0", api.Op{Kind: 9, A: 1}}, {"recover arm 7 8 -9", api.Op{Kind: 9, A: 8, Keep: []int{8, -9}}}, {" recover  arm  999999999 ", api.Op{Kind: 9, A: 1000000000}},
	} {
		g.wantThing(t, "P6.12, P6.14", c.text, []api.Op{c.step})
		all, want = append(all, c.text), append(want, c.step)
	}
	g.wantThing(t, "P6.12, P6.14", lines(all...), want)
	for _, first := range []string{"what", "Pick 1 2", "pick, 1 2", "picks", "arms", "after 1", "repeats", "ends", "end.", "0", "-1", "trigger;", "post\t", "recovery", "plan 1", "\"a\" 1"} {
		g.wantFault(t, "P6.12", "post\n  "+first, 2, 2, api.ErrPlanWord)
	}
}

func TestFailAndRecover(t *testing.T) {
	g := scripts()
	for _, c := range []struct {
		text string
		at   int
		err  api.Errno
	}{
		{"fail after 2", 5, api.ErrPlanNumber}, {"fail 2 after x", 13, api.ErrPlanNumber}, {"fail 2 after 3 4", 15, api.ErrPlanWord}, {"fail 2 after 3 after 4", 15, api.ErrPlanWord}, {"fail 2 After 3", 7, api.ErrPlanWord}, {"fail 2 afters 3", 7, api.ErrPlanWord}, {"fail 2 after after", 13, api.ErrPlanNumber}, {"fail 2 after3", 7, api.ErrPlanWord}, {"fail 2after 3", 5, api.ErrPlanNumber},
		{"recover x", 8, api.ErrPlanNumber}, {"recover 1 x", 10, api.ErrPlanNumber}, {"recover 1 arm 2", 10, api.ErrPlanNumber}, {"recover arm x", 12, api.ErrPlanNumber}, {"recover arm -1", 12, api.ErrPlanNumber}, {"recover arm -0", 12, api.ErrPlanNumber}, {"recover arm arm 1", 12, api.ErrPlanNumber}, {"recover arm 1 x", 14, api.ErrPlanNumber}, {"recover arm 1 arm 2", 14, api.ErrPlanNumber}, {"recover Arm 1", 8, api.ErrPlanNumber}, {"recover arms 1", 8, api.ErrPlanNumber}, {"recover arm1", 8, api.ErrPlanNumber}, {"recover arm 1234567890", 12, api.ErrPlanNumber}, {"recover 1 2 3 --4", 14, api.ErrPlanNumber}, {"recover 1, 2", 8, api.ErrPlanNumber}, {"arm arm 1", 4, api.ErrPlanNumber},
	} {
		g.wantFault(t, "P6.12", c.text, 1, c.at, c.err)
		g.wantFault(t, "P6.12", "repeat 2\n "+c.text+"\nwhat", 2, c.at+1, c.err)
	}
}

func TestRepeats(t *testing.T) {
	g := scripts()
	trigger := []api.Op{{Kind: api.OpTrigger}}
	inner := slices.Concat(post(3), trigger)
	g.wantThing(t, "P6.12", lines("repeat 2", "repeat 3", "post", "end", "trigger", "end", "crash"), slices.Concat(inner, inner, []api.Op{{Kind: api.OpCrash}}))
	g.wantThing(t, "P6.12", lines("repeat 1", "post", "end"), post(1))
	g.wantThing(t, "P6.12", lines(" repeat  2 ", "", "# x", "  post", " end ", "trigger"), slices.Concat(post(2), trigger))
	g.wantThing(t, "P6.12", lines("repeat 2000", "end", "repeat 3", "repeat 2000", "end", "end"), []api.Op{})
	g.wantThing(t, "P6.12", lines("trigger", "repeat 2", "end", "post", "repeat 2", "repeat 2", "post", "end", "end"), slices.Concat(trigger, post(5)))
	// As deep as the text's length lets them: 614 repeats around a step.
	deep := strings.Repeat("repeat 1\n", 614) + "post\n" + strings.Repeat("end\n", 614)
	g.wantThing(t, "P6.12", deep, post(1))
	g.wantThing(t, "P6.12", strings.Repeat("repeat 9\n", 614)+strings.Repeat("end\n", 614), []api.Op{})
	g.wantThing(t, "P6.12", strings.Repeat("repeat 2\n", 10)+"post\n"+strings.Repeat("end\n", 10), post(1024))
	g.wantThing(t, "P6.12", lines("repeat 2", "recover 1 2", "end"), slices.Repeat([]api.Op{{Kind: 9, Keep: []int{1, 2}}}, 2))
}

func TestEndsAndRepeatsThatDontFit(t *testing.T) {
	g := scripts()
	g.wantFault(t, "P6.12", "post\n  end", 2, 2, api.ErrPlanEnd)
	g.wantFault(t, "P6.12", "end x", 1, 0, api.ErrPlanEnd)
	g.wantFault(t, "P6.12", lines("repeat 2", "post", "end", "end"), 4, 0, api.ErrPlanEnd)
	g.wantFault(t, "P6.12", lines("repeat 2", "repeat 2", "end", "end", " end what"), 5, 1, api.ErrPlanEnd)
	g.wantFault(t, "P6.13", lines("repeat 2", "  repeat 3", "post"), 2, 2, api.ErrPlanEnd)
	g.wantFault(t, "P6.13", lines("post", " repeat 2", "  repeat 3", "post", "end", "post", ""), 2, 1, api.ErrPlanEnd)
	g.wantFault(t, "P6.13", lines("repeat 2", "end", "", "repeat 3", "#"), 4, 0, api.ErrPlanEnd)
	g.wantFault(t, "P6.13", strings.Repeat("repeat 1\n", 888), 888, 0, api.ErrPlanEnd)
	// A fault of a line comes ahead of a repeat that isn't ended.
	g.wantFault(t, "P6.13", lines("repeat 2", "post", "what"), 3, 0, api.ErrPlanWord)
	g.wantFault(t, "P6.13", lines("repeat 2", "end 1"), 2, 4, api.ErrPlanWord)
}

func TestSizes(t *testing.T) {
	g := scripts()
	g.wantThing(t, "P6.13", lines("repeat 2000", "post", "end"), post(2000))
	g.wantThing(t, "P6.13", lines("repeat 1000", "post", "post", "end"), post(2000))
	g.wantThing(t, "P6.13", lines("repeat 1999", "post", "end", "post"), post(2000))
	g.wantThing(t, "P6.13", lines("post", "repeat 1999", "post", "end"), post(2000))
	g.wantThing(t, "P6.13", lines("repeat 40", "repeat 50", "post", "end", "end"), post(2000))
	g.wantThing(t, "P6.13", lines("repeat 1", "repeat 2000", "post", "end", "end", "repeat 2000", "end"), post(2000))
	for _, c := range []struct {
		line, at int
		text     string
	}{
		{4, 0, lines("repeat 2000", "post", "post", "end")},
		{4, 0, lines("repeat 2000", "post", "end", "post")},
		{4, 3, lines("repeat 2000", "post", "end", "   pick 1 2 ")},
		{4, 0, lines("post", "repeat 2000", "post", "end")},
		{5, 0, lines("repeat 40", "repeat 51", "post", "end", "end")},
		{5, 0, lines("repeat 2", "repeat 2000", "post", "end", "end")},
		{5, 2, lines("repeat 1", "repeat 2000", "post", "end", "  post", "what")},
		{8, 0, lines("repeat 2", "repeat 1000", "post", "end", "end", "repeat 1", "post", "end")},
	} {
		g.wantFault(t, "P6.13", c.text, c.line, c.at, api.ErrPlanMany)
	}
	// The size of an open repeat is its own: what stands around it counts when it ends.
	g.wantFault(t, "P6.13", lines("repeat 2000", "post", "end", "repeat 1", "post", "post", "end"), 7, 0, api.ErrPlanMany)
	g.wantFault(t, "P6.13", lines("repeat 2000", "post", "end", "repeat 1", "repeat 2000", "post", "end", "what"), 8, 0, api.ErrPlanWord)
	// What else is wrong in the line comes first.
	g.wantFault(t, "P6.13", lines("repeat 2000", "post", "end", "post x"), 4, 5, api.ErrPlanWord)
	g.wantFault(t, "P6.13", lines("repeat 2000", "post", "end", "pick 1 x"), 4, 7, api.ErrPlanNumber)
	g.wantFault(t, "P6.13", lines("repeat 2000", "post", "post", "end x"), 4, 4, api.ErrPlanWord)
	g.wantFault(t, "P6.13", lines("repeat 2000", "post", "end", "what"), 4, 0, api.ErrPlanWord)
	g.wantFault(t, "P6.13", lines("repeat 2000", "post", "end", "end"), 4, 0, api.ErrPlanEnd)
	// Lines that add nothing.
	g.wantFault(t, "P6.13", lines("repeat 2000", "post", "end", "repeat 2"), 4, 0, api.ErrPlanEnd)
	g.wantThing(t, "P6.13", lines("repeat 2000", "post", "end", "repeat 2", "end", "# post"), post(2000))
	// A product that is far beyond all bounds.
	g.wantFault(t, "P6.13", lines("repeat 2000", "repeat 2000", "post", "end", "end"), 5, 0, api.ErrPlanMany)
	// Steps that stand in the text one by one: no text has room for 2001 of them, so some are repeated.
	g.wantThing(t, "P6.13", lines("repeat 600", "post", "end")+strings.Repeat("\npost", 1400), post(2000))
	g.wantFault(t, "P6.13", lines("repeat 600", "post", "end")+strings.Repeat("\npost", 1401), 1404, 0, api.ErrPlanMany)
}

func TestPrintScript(t *testing.T) {
	g := scripts()
	g.wantText(t, "P6.15", []api.Op{}, "", nil)
	all := []api.Op{
		{Kind: 1, A: 1, B: 2}, {Kind: 1, A: -999999999, B: 999999999}, {Kind: 1}, {Kind: 2}, {Kind: 3}, {Kind: 4}, {Kind: 5}, {Kind: 6, A: 7}, {Kind: 6, A: -7}, {Kind: 6},
		{Kind: 7, A: 2}, {Kind: 7, A: 2, B: 3}, {Kind: 7, B: -999999999}, {Kind: 7}, {Kind: 8, A: 2, B: 9}, {Kind: 8, A: 999999999, B: -1},
		{Kind: 9}, {Kind: 9, Keep: []int{}}, {Kind: 9, Keep: []int{0}}, {Kind: 9, Keep: []int{5, -5, 999999999, -999999999}}, {Kind: 9, A: 1}, {Kind: 9, A: 8, Keep: []int{8, -9}}, {Kind: 9, A: 1000000000},
	}
	g.wantText(t, "P6.15", all, lines(
		"pick 1 2", "pick -999999999 999999999", "pick 0 0", "trigger", "post", "abort", "crash", "arm 7", "arm -7", "arm 0",
		"fail 2", "fail 2 after 3", "fail 0 after -999999999", "fail 0", "spoil 2 9", "spoil 999999999 -1",
		"recover", "recover", "recover 0", "recover 5 -5 999999999 -999999999", "recover arm 0", "recover arm 7 8 -9", "recover arm 999999999", "",
	), nil)
	for _, op := range all {
		line, _ := modelStepText(op)
		for _, n := range []int{1, 2, 3, 4, 9, 10, 99, 100, 1999, 2000} {
			want := fmt.Sprintf("repeat %d\n%send\n", n, line)
			if n < 3 {
				want = strings.Repeat(line, n)
			}
			g.wantText(t, "P6.15", slices.Repeat([]api.Op{op}, n), want, nil)
		}
	}
}

// TestRunsOfEqualSteps: only steps that are the same in every field make a run, and only next to one another.
func TestRunsOfEqualSteps(t *testing.T) {
	g := scripts()
	pick := func(a, b int) api.Op { return api.Op{Kind: api.OpPick, A: a, B: b} }
	up := func(a int, keep ...int) api.Op { return api.Op{Kind: api.OpRecover, A: a, Keep: keep} }
	for want, l := range map[string][]api.Op{
		"pick 1 2\npick 1 2\npick 1 3\npick 1 3\n":                                                {pick(1, 2), pick(1, 2), pick(1, 3), pick(1, 3)},
		"pick 1 2\npick 2 2\npick 1 2\npick 2 2\npick 1 2\n":                                      {pick(1, 2), pick(2, 2), pick(1, 2), pick(2, 2), pick(1, 2)},
		"pick 1 2\nspoil 1 2\npick 1 2\n":                                                         {pick(1, 2), {Kind: api.OpSpoil, A: 1, B: 2}, pick(1, 2)},
		"repeat 3\npost\nend\nrepeat 3\ntrigger\nend\nrepeat 4\npost\nend\n":                      slices.Concat(post(3), slices.Repeat([]api.Op{{Kind: api.OpTrigger}}, 3), post(4)),
		"post\npost\nrepeat 3\ntrigger\nend\npost\npost\n":                                        slices.Concat(post(2), slices.Repeat([]api.Op{{Kind: api.OpTrigger}}, 3), post(2)),
		"repeat 3\nrecover 1 2\nend\nrecover 1\nrecover 1 2\nrecover 2 1\nrecover arm 0 1 2\n":    {up(0, 1, 2), up(0, 1, 2), up(0, 1, 2), up(0, 1), up(0, 1, 2), up(0, 2, 1), up(1, 1, 2)},
		"repeat 3\nrecover\nend\n":                                                                {up(0), {Kind: api.OpRecover, Keep: []int{}}, {Kind: api.OpRecover, Keep: make([]int, 0, 9)}},
		"repeat 3\nfail 1\nend\nfail 1 after 1\nfail 1 after 1\nfail 1 after 2\nfail 2 after 2\n": {{Kind: 7, A: 1}, {Kind: 7, A: 1}, {Kind: 7, A: 1}, {Kind: 7, A: 1, B: 1}, {Kind: 7, A: 1, B: 1}, {Kind: 7, A: 1, B: 2}, {Kind: 7, A: 2, B: 2}},
		"repeat 3\nrecover arm 3\nend\nrecover 3\nrecover arm 4\n":                                {up(4), up(4), up(4), up(0, 3), up(5)},
	} {
		g.wantText(t, "P6.15", l, want, nil)
	}
}

func TestScriptsThatCannotBeWritten(t *testing.T) {
	g := scripts()
	const least, most = -1 << 63, 1<<63 - 1
	bad := map[string]api.Op{"kind 0": {}, "kind 10": {Kind: 10}, "kind -1": {Kind: -1}, "a kind far beyond": {Kind: most}}
	for _, kind := range []int{1, 2, 3, 4, 5, 6, 7, 8, 9} {
		for _, n := range []int{-1000000000, 1000000001, least, most} {
			bad[fmt.Sprint("kind ", kind, ", A ", n)] = api.Op{Kind: kind, A: n}
			bad[fmt.Sprint("kind ", kind, ", B ", n)] = api.Op{Kind: kind, B: n}
			bad[fmt.Sprint("kind ", kind, ", Keep ", n)] = api.Op{Kind: kind, Keep: []int{1, n, 1}}
		}
		if kind != api.OpRecover {
			bad[fmt.Sprint("kind ", kind, ", A of ten digits")] = api.Op{Kind: kind, A: 1000000000}
			bad[fmt.Sprint("kind ", kind, " with a Keep")] = api.Op{Kind: kind, Keep: []int{0}}
		}
		bad[fmt.Sprint("kind ", kind, ", B of ten digits")] = api.Op{Kind: kind, B: 1000000000}
	}
	for _, kind := range []int{2, 3, 4, 5} {
		bad[fmt.Sprint("kind ", kind, " with an A")] = api.Op{Kind: kind, A: 1}
		bad[fmt.Sprint("kind ", kind, " with an A below 0")] = api.Op{Kind: kind, A: -1}
	}
	for _, kind := range []int{2, 3, 4, 5, 6, 9} {
		bad[fmt.Sprint("kind ", kind, " with a B")] = api.Op{Kind: kind, B: 1}
		bad[fmt.Sprint("kind ", kind, " with a B below 0")] = api.Op{Kind: kind, B: -1}
	}
	bad["a recover with an A below 0"] = api.Op{Kind: 9, A: -1}
	bad["a recover with an arm beyond"] = api.Op{Kind: 9, A: 1000000001}
	bad["a recover with a Keep of ten digits"] = api.Op{Kind: 9, Keep: []int{1000000000}}
	for why, op := range bad {
		g.wantUnwritten(t, "P6.15", why, []api.Op{op})
		g.wantUnwritten(t, "P6.15", why, []api.Op{{Kind: 3}, op, {Kind: 3}})
		g.wantUnwritten(t, "P6.15", why, slices.Concat(post(3), slices.Repeat([]api.Op{op}, 3)))
	}
}

func TestScriptsOfAsManyStepsAndBytesAsTheyMayHave(t *testing.T) {
	g := scripts()
	g.wantText(t, "P6.15", post(2000), "repeat 2000\npost\nend\n", nil)
	g.wantUnwritten(t, "P6.15", "2001 steps", post(2001))
	for n := 7990; n <= 8010; n++ {
		// Picks take nine bytes each, the last line what is left.
		var l []api.Op
		for k := range n/9 - 3 {
			l = append(l, api.Op{Kind: api.OpPick, A: k % 2, B: k % 10})
		}
		last, size := api.Op{Kind: api.OpRecover}, n-9*len(l)-len("recover\n")
		if size%2 == 1 {
			last.Keep, size = []int{10}, size-3
		}
		last.Keep = append(last.Keep, make([]int, size/2)...)
		l = append(l, last)
		want, _ := modelScriptText(l)
		if len(want) != n {
			t.Fatalf("a script of %d bytes has %d", n, len(want))
		}
		if n <= 8000 {
			g.wantText(t, "P6.15", l, want, nil)
		} else {
			g.wantUnwritten(t, "P6.15", fmt.Sprint("a script of ", n, " bytes"), l)
		}
		g.wantUnwritten(t, "P6.15", "two long lines", []api.Op{{Kind: 9, Keep: make([]int, 3000)}, {Kind: 9, A: 1, Keep: make([]int, 3000)}})
	}
	one := api.Op{Kind: api.OpRecover, Keep: make([]int, 3996)}
	g.wantText(t, "P6.15", []api.Op{one}, "recover"+strings.Repeat(" 0", 3996)+"\n", nil)
	one.Keep = make([]int, 3997)
	g.wantUnwritten(t, "P6.15", "a list of 3997 numbers", []api.Op{one})
	// A list that is far too long, in every step.
	one.Keep = make([]int, 1<<22)
	g.wantUnwritten(t, "P6.15", "lists far too long", slices.Repeat([]api.Op{one}, 2000))
}
