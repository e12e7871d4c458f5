package plan_test

import (
	"fmt"
	"strings"
	"testing"

	"eddy/api"
)

const small = "plan 3\ntask s source 0\ntask m map key;val + 1\ntask k sink\nedge s.0 m.0\nedge m.0 k.0\n"

func smallPlan() api.Plan {
	return api.Plan{
		Cap:   3,
		Tasks: []api.Task{{Name: "s", Kind: api.Source}, {Name: "m", Kind: api.Map, Exprs: []string{"key", "val+1"}}, {Name: "k", Kind: api.Sink}},
		Edges: []api.Edge{{From: 0, Out: 0, To: 1, In: 0}, {From: 1, Out: 0, To: 2, In: 0}},
	}
}

// task gives a plan of one task, behind a line plan 1.
func oneTask(task api.Task) api.Plan { return api.Plan{Cap: 1, Tasks: []api.Task{task}} }

func TestPlanExamples(t *testing.T) {
	g := plans()
	g.wantThing(t, "P6, example 1", small, smallPlan())
	g.wantText(t, "P6, example 1", smallPlan(), strings.Replace(small, "key;val + 1", "key ; val+1", 1), nil)
	for _, c := range []struct {
		text     string
		line, at int
		err      api.Errno
	}{
		{"", 1, 0, api.ErrPlanEnd}, {"task a sink", 1, 0, api.ErrPlanWord}, {"plan", 1, 4, api.ErrPlanNumber}, {"plan 3 x", 1, 7, api.ErrPlanWord}, {"plan 1234567890", 1, 5, api.ErrPlanNumber},
		{"plan 1\ntask a map key", 2, 14, api.ErrPlanWord}, {"plan 1\ntask a map key;", 2, 15, api.ErrExprToken}, {"plan 1\ntask a map key;val;", 2, 18, api.ErrPlanWord},
		{"plan 1\ntask a map ; val", 2, 11, api.ErrExprToken}, {"plan 1\ntask a filter 1+  ", 2, 16, api.ErrExprToken}, {"plan 1\ntask A sink", 2, 5, api.ErrPlanName}, {"plan 1\nedge a.0 b.0", 2, 5, api.ErrPlanName},
		{"plan 1\ntask t tail val;3;", 2, 16, api.ErrPlanNumber}, {"plan 1\ntask t tail val;3 ;", 2, 18, api.ErrPlanWord}, {"plan 1\ntask t tail val;", 2, 16, api.ErrPlanNumber}, {"plan 1\ntask t tail val; ", 2, 17, api.ErrPlanNumber},
	} {
		g.wantFault(t, "P6, examples 2 to 4", c.text, c.line, c.at, c.err)
	}
	g.wantThing(t, "P6, example 4", "plan 1\ntask t tail val;3", oneTask(api.Task{Name: "t", Kind: api.Tail, Num: 3, Exprs: []string{"val"}}))
	g.wantThing(t, "P6, example 4", "plan 1\ntask t tail \";\"==key ; 3", oneTask(api.Task{Name: "t", Kind: api.Tail, Num: 3, Exprs: []string{`";"==key`}}))
}

func TestTheFirstLineOfAPlan(t *testing.T) {
	g := plans()
	g.wantThing(t, "P6.4", "plan 0", api.Plan{})
	g.wantThing(t, "P6.4", "\n # x\n  plan   12  ", api.Plan{Cap: 12})
	for _, first := range []string{"task a sink", "edge a.0 b.0", "what", "Plan 3", "plans 3", "plan3", "plan\t3", "3", ";"} {
		g.wantFault(t, "P6.4", "\n  "+first+"\nplan 3", 2, 2, api.ErrPlanWord)
	}
	for _, later := range []string{"plan 1", "plan", "what", "Task a sink", "tasks a sink", "edges", "edge. a", "task\ta sink", "0"} {
		g.wantFault(t, "P6.4", "plan 1\n\ntask a tee\n   "+later, 4, 3, api.ErrPlanWord)
	}
	for text, place := range map[string][2]int{"": {1, 0}, " ": {1, 1}, "\n": {2, 0}, "# x": {1, 3}, "\n\n#x\n  ": {4, 2}, "  # a\n# bcd": {2, 5}, "    \n": {2, 0}} {
		g.wantFault(t, "P6.4", text, place[0], place[1], api.ErrPlanEnd)
	}
}

// A kindSample is a kind's word, what may follow it, and the task.
type kindSample struct {
	word, follows string
	task          api.Task
}

func kindSamples() []kindSample {
	return []kindSample{
		{"source", " 4", api.Task{Kind: 1, Num: 4}},
		{"map", " key ; val*2", api.Task{Kind: 2, Exprs: []string{"key", "val*2"}}},
		{"filter", " val>0", api.Task{Kind: 3, Exprs: []string{"val>0"}}},
		{"fold", " 0 ; acc+val", api.Task{Kind: 4, Exprs: []string{"0", "acc+val"}}},
		{"union", "", api.Task{Kind: 5}},
		{"split", " val>0", api.Task{Kind: 6, Exprs: []string{"val>0"}}},
		{"tee", "", api.Task{Kind: 7}},
		{"join", "", api.Task{Kind: 8}},
		{"window", " 3", api.Task{Kind: 9, Num: 3}},
		{"dedup", "", api.Task{Kind: 10}},
		{"head", "", api.Task{Kind: 11}},
		{"tail", " hops<3 ; 9", api.Task{Kind: 12, Num: 9, Exprs: []string{"hops<3"}}},
		{"sink", "", api.Task{Kind: 13}},
	}
}

func TestKinds(t *testing.T) {
	g := plans()
	for _, k := range kindSamples() {
		k.task.Name = "a"
		g.wantThing(t, "P6.5", "plan 1\n task  a  "+k.word+k.follows+" ", oneTask(k.task))
		g.wantText(t, "P6.8", oneTask(k.task), "plan 1\ntask a "+k.word+k.follows+"\n", nil)
		for _, word := range []string{strings.ToUpper(k.word), k.word + "s", k.word[1:], k.word + ";", k.word + ".", "." + k.word} {
			g.wantFault(t, "P6.5", "plan 1\ntask a "+word+k.follows, 2, 7, api.ErrPlanWord)
		}
	}
	// Twelve of the thirteen, in one plan: each one left out once.
	for out := range 13 {
		text, want := "plan 1\n", api.Plan{Cap: 1}
		for n, k := range kindSamples() {
			if k.task.Name = "n" + k.word; n != out {
				text += "task n" + k.word + " " + k.word + k.follows + "\n"
				want.Tasks = append(want.Tasks, k.task)
			}
		}
		g.wantThing(t, "P6.5", text, want)
		g.wantText(t, "P6.8", want, text, nil)
	}
	for _, word := range []string{"what", "task", "0", "repeat", "Source", "\"map\""} {
		g.wantFault(t, "P6.5", "plan 1\ntask a "+word+" 1 ; 2", 2, 7, api.ErrPlanWord)
	}
}

func TestTasksAreBounded(t *testing.T) {
	g := plans()
	text, want := "plan 1\n", api.Plan{Cap: 1}
	for k := range 12 {
		name := fmt.Sprint("t", k)
		text += "task " + name + " tee\n"
		want.Tasks = append(want.Tasks, api.Task{Name: name, Kind: api.Tee})
	}
	g.wantThing(t, "P6.5", text, want)
	g.wantText(t, "P6.8", want, text, nil)
	for _, more := range []string{"task u tee", "task", "task t0 tee", "task A what", "task u what x"} {
		g.wantFault(t, "P6.5", text+"#\n  "+more, 15, 2, api.ErrPlanMany)
	}
	g.wantFault(t, "P6.7", text+"edge u.0 t0.0", 14, 5, api.ErrPlanName)
	want.Tasks = append(want.Tasks, api.Task{Name: "u", Kind: api.Tee})
	g.wantUnwritten(t, "P6.8", "thirteen tasks", want)
}

func TestNamesThatStandTwice(t *testing.T) {
	g := plans()
	g.wantFault(t, "P6.5", "plan 1\ntask a tee\ntask b tee\n task  a what", 4, 7, api.ErrPlanTwice)
	g.wantFault(t, "P6.5", "plan 1\ntask a tee\ntask a", 3, 5, api.ErrPlanTwice)
	g.wantFault(t, "P6.5", "plan 1\ntask abcdefgh tee\ntask abcdefgh sink", 3, 5, api.ErrPlanTwice)
	g.wantTaken(t, "P6.5", "plan 1\ntask abcdefgh tee\ntask abcdefg tee\ntask abcdefgi tee")
	p := smallPlan()
	p.Tasks[2].Name = "s"
	g.wantUnwritten(t, "P6.8", "a name that stands twice", p)
}

// TestPieces: each kind that has expressions, with every number of pieces.
func TestPieces(t *testing.T) {
	g := plans()
	for word, wanted := range map[string]int{"map": 2, "fold": 2, "filter": 1, "split": 1} {
		line := "task a " + word
		for n := 1; n <= 4; n++ {
			// Of each piece's bytes the last one is the place behind it.
			line += " val+" + fmt.Sprint(n)
			switch {
			case n < wanted:
				g.wantFault(t, "P6.6", "plan 1\n"+line, 2, len(line), api.ErrPlanWord)
				g.wantFault(t, "P6.6", "plan 1\n"+line+"   ", 2, len(line)+3, api.ErrPlanWord)
				g.wantFault(t, "P6.6", "plan 1\n"+line+";", 2, len(line)+1, api.ErrExprToken)
				g.wantFault(t, "P6.6", "plan 1\n"+line+";  ", 2, len(line)+3, api.ErrExprToken)
			case n == wanted:
				g.wantTaken(t, "P6.6", "plan 1\n"+line)
				g.wantTaken(t, "P6.6", "plan 1\n"+line+"   ")
				g.wantFault(t, "P6.6", "plan 1\n"+line+";", 2, len(line), api.ErrPlanWord)
				g.wantFault(t, "P6.6", "plan 1\n"+line+"  ; ", 2, len(line)+2, api.ErrPlanWord)
				g.wantFault(t, "P6.6", "plan 1\n"+line+";;what", 2, len(line), api.ErrPlanWord)
			}
			line += " ;"
			if n > wanted {
				g.wantFault(t, "P6.6", "plan 1\n"+line, 2, strings.Index(line, fmt.Sprint("+", wanted, " ;"))+3, api.ErrPlanWord)
			}
		}
	}
	g.wantFault(t, "P6.6", "plan 1\ntask a map ;;", 2, 11, api.ErrExprToken)
	g.wantFault(t, "P6.6", "plan 1\ntask a map;key", 2, 7, api.ErrPlanWord)
	g.wantFault(t, "P6.6", "plan 1\ntask a map key;;val", 2, 15, api.ErrExprToken)
	g.wantFault(t, "P6.6", "plan 1\ntask a map key;  ;val", 2, 17, api.ErrExprToken)
	g.wantFault(t, "P6.6", "plan 1\ntask a filter ;", 2, 14, api.ErrExprToken)
	g.wantFault(t, "P6.6", "plan 1\ntask a filter    ", 2, 17, api.ErrExprToken)
}

// TestPiecesAndQuotes: a ; in a text in quotes cuts nothing.
func TestPiecesAndQuotes(t *testing.T) {
	g := plans()
	filter := func(canon string) api.Plan {
		return oneTask(api.Task{Name: "a", Kind: api.Filter, Exprs: []string{canon}})
	}
	for text, canon := range map[string]string{
		`";"`: `";"`, `";;" == ";"`: `";;"==";"`, `"\";"`: `"\";"`, `"\\" + ";"`: `"\\"+";"`, `"\\\";" + "\\"`: `"\\\";"+"\\"`, `"" + ";"`: `""+";"`, `"\x3b" + "\\;"`: `";"+"\\;"`, `"a\";\\"`: `"a\";\\"`,
	} {
		g.wantThing(t, "P6.6", "plan 1\ntask a filter "+text, filter(canon))
		g.wantThing(t, "P6.6", "plan 1\ntask a map "+text+";"+text, oneTask(api.Task{Name: "a", Kind: api.Map, Exprs: []string{canon, canon}}))
		g.wantThing(t, "P6.6", "plan 1\ntask a tail "+text+";7", oneTask(api.Task{Name: "a", Kind: api.Tail, Exprs: []string{canon}, Num: 7}))
	}
	// Behind two backslashes a quote ends the text, behind one or three it doesn't.
	g.wantFault(t, "P6.6", `plan 1`+"\n"+`task a filter "\\";"`, 2, 18, api.ErrPlanWord)
	g.wantFault(t, "P6.6", `plan 1`+"\n"+`task a filter "\";`, 2, 14, api.ErrExprText)
	g.wantFault(t, "P6.6", `plan 1`+"\n"+`task a filter "\\\";`, 2, 14, api.ErrExprText)
	g.wantFault(t, "P6.6", `plan 1`+"\n"+`task a filter "\\\\";`, 2, 20, api.ErrPlanWord)
	g.wantFault(t, "P6.6", `plan 1`+"\n"+`task a filter "a\\"b\\";`, 2, 19, api.ErrExprName)
	// A backslash ahead of an opening quote doesn't keep it from opening.
	g.wantFault(t, "P6.6", `plan 1`+"\n"+`task a map \";";val`, 2, 11, api.ErrExprByte)
	g.wantFault(t, "P6.6", `plan 1`+"\n"+`task a filter 1 \";"`, 2, 16, api.ErrExprByte)
	// Quotes that don't end go to the line's end.
	g.wantFault(t, "P6.6", `plan 1`+"\n"+`task a map "a;val`, 2, 11, api.ErrExprText)
	g.wantFault(t, "P6.6", `plan 1`+"\n"+`task a map key;"a;val;`, 2, 15, api.ErrExprText)
	g.wantFault(t, "P6.6", `plan 1`+"\n"+`task a map key;"a`+"\n"+`;val"`, 2, 15, api.ErrExprText)
	g.wantFault(t, "P6.6", `plan 1`+"\n"+`task a tail ";3`, 2, 12, api.ErrExprText)
	g.wantFault(t, "P6.6", `plan 1`+"\n"+`task a filter key "`, 2, 18, api.ErrExprText)
}

func TestFaultsOfExpressions(t *testing.T) {
	g := plans()
	for _, c := range []struct {
		text string
		at   int
		err  api.Errno
	}{
		{"key = 1", 4, api.ErrExprByte}, {"1\t", 1, api.ErrExprByte}, {"9223372036854775808", 0, api.ErrExprNumber}, {"key+99999999999999999999", 4, api.ErrExprNumber}, {`1 + "\q"`, 4, api.ErrExprText}, {"1 + foo", 4, api.ErrExprName},
		{strings.Repeat("(", 11) + "1", 10, api.ErrExprDeep}, {"1 +", 3, api.ErrExprToken}, {"1 < 2 < 3", 6, api.ErrExprToken}, {strings.Repeat("1+", 50) + "1", 0, api.ErrExprLong}, {")", 0, api.ErrExprToken}, {"\xff", 0, api.ErrExprByte}, {"key\r", 3, api.ErrExprByte},
	} {
		for _, line := range []string{"task a filter X", "task a filter    X  ", "task a split X", "task a map X ; key", "task a map key;X", "task a fold    X;key", "task a fold 1 ;   X", "task a tail X ; 3", "task a tail   X", "   task a map key ;X;key"} {
			begin := strings.IndexByte(line, 'X')
			g.wantFault(t, "P6.6", "plan 1\n"+strings.Replace(line, "X", c.text, 1), 2, begin+c.at, c.err)
		}
	}
}

func TestExpressionsOfAsManyBytesAsTheyMayHave(t *testing.T) {
	g := plans()
	long := strings.Repeat("1+", 49) + "11"
	want := oneTask(api.Task{Name: "f", Kind: api.Filter, Exprs: []string{long}})
	g.wantThing(t, "P6.6", "plan 1\ntask f filter "+long, want)
	g.wantThing(t, "P6.6", "plan 1\ntask f filter"+strings.Repeat(" ", 100)+long+strings.Repeat(" ", 100), want)
	g.wantText(t, "P6.8", want, "plan 1\ntask f filter "+long+"\n", nil)
	g.wantFault(t, "P6.6", "plan 1\ntask f filter   "+long+"1 ", 2, 16, api.ErrExprLong)
	g.wantFault(t, "P6.6", "plan 1\ntask f map key;   "+long+"1 ", 2, 18, api.ErrExprLong)
	g.wantFault(t, "P6.6", "plan 1\ntask f map key;   1+ "+long[2:]+";", 2, 18, api.ErrExprLong)
	g.wantUnwritten(t, "P6.8", "an expression of 101 bytes", oneTask(api.Task{Name: "f", Kind: api.Filter, Exprs: []string{long + "1"}}))
	blank := oneTask(api.Task{Name: "f", Kind: api.Filter, Exprs: []string{" " + long}})
	g.wantUnwritten(t, "P6.8", "an expression of 101 bytes", blank)
}

func TestExpressionsAreKeptInTheirOneForm(t *testing.T) {
	g := plans()
	g.wantThing(t, "P6.6", "plan 1\ntask a map ( key ) ; ((val)) + 007", oneTask(api.Task{Name: "a", Kind: api.Map, Exprs: []string{"key", "val+7"}}))
	g.wantThing(t, "P6.6", "plan 1\ntask a tail not ( 1 or 2 ) ; 007", oneTask(api.Task{Name: "a", Kind: api.Tail, Exprs: []string{"not(1or2)"}, Num: 7}))
	g.wantText(t, "P6.8", oneTask(api.Task{Name: "a", Kind: api.Fold, Exprs: []string{" ( 1+ 2 )+03 ", `"\x3b;" `}}), "plan 1\ntask a fold 1+2+3 ; \";;\"\n", oneTask(api.Task{Name: "a", Kind: api.Fold, Exprs: []string{"1+2+3", `";;"`}}))
}

func TestTheLastPieceOfATail(t *testing.T) {
	g := plans()
	want := func(n int) api.Plan {
		return oneTask(api.Task{Name: "t", Kind: api.Tail, Exprs: []string{"val"}, Num: n})
	}
	for text, n := range map[string]int{"val;3": 3, "val ; 3": 3, "  val  ;  3  ": 3, "val;0": 0, "val;000000012": 12, "val;999999999 ": 999999999} {
		g.wantThing(t, "P6.6", "plan 1\ntask t tail "+text, want(n))
	}
	for _, c := range []struct {
		text string
		at   int
		err  api.Errno
	}{
		{"val;;", 4, api.ErrPlanNumber}, {"val; ;", 5, api.ErrPlanNumber}, {"val;;3", 4, api.ErrPlanNumber}, {"val;3;", 4, api.ErrPlanNumber}, {"val;3;4", 4, api.ErrPlanNumber}, {"val;3 ;", 6, api.ErrPlanWord}, {"val; 3 4", 7, api.ErrPlanWord}, {"val;-3", 4, api.ErrPlanNumber},
		{"val;1234567890", 4, api.ErrPlanNumber}, {"val;val", 4, api.ErrPlanNumber}, {`val;";"`, 4, api.ErrPlanNumber}, {`val;3 ";`, 6, api.ErrPlanWord}, {"val", 3, api.ErrPlanWord}, {"val  ", 5, api.ErrPlanWord}, {"val 3", 4, api.ErrExprToken}, {";3", 0, api.ErrExprToken}, {"val;", 4, api.ErrPlanNumber}, {"val;   ", 7, api.ErrPlanNumber}, {"val;3\t", 4, api.ErrPlanNumber},
	} {
		g.wantFault(t, "P6.6", "plan 1\ntask t tail "+c.text, 2, 12+c.at, c.err)
	}
}

func TestEdges(t *testing.T) {
	g := plans()
	const ahead = "plan 1\ntask ab tee\ntask c tee\n"
	tasks := []api.Task{{Name: "ab", Kind: api.Tee}, {Name: "c", Kind: api.Tee}}
	g.wantThing(t, "P6.7", ahead+"edge  ab.0   c.1 \nedge c.007 ab.999999999\nedge ab.0 c.1\nedge c.3 c.3", api.Plan{Cap: 1, Tasks: tasks, Edges: []api.Edge{{From: 0, Out: 0, To: 1, In: 1}, {From: 1, Out: 7, To: 0, In: 999999999}, {From: 0, Out: 0, To: 1, In: 1}, {From: 1, Out: 3, To: 1, In: 3}}})
	for word, fault := range map[string]struct {
		at  int
		err api.Errno
	}{
		"ab": {2, api.ErrPlanNumber}, "ab.": {3, api.ErrPlanNumber}, "ab.x": {3, api.ErrPlanNumber}, "ab..1": {3, api.ErrPlanNumber}, "ab.1.2": {3, api.ErrPlanNumber}, "ab.-1": {3, api.ErrPlanNumber}, "ab.1234567890": {3, api.ErrPlanNumber}, "ab.1,": {3, api.ErrPlanNumber},
		"x.0": {0, api.ErrPlanName}, "x": {0, api.ErrPlanName}, ".0": {0, api.ErrPlanName}, ".": {0, api.ErrPlanName}, ".ab.0": {0, api.ErrPlanName}, "a.0": {0, api.ErrPlanName}, "abc.0": {0, api.ErrPlanName}, "AB.0": {0, api.ErrPlanName}, "0.0": {0, api.ErrPlanName}, "d.0": {0, api.ErrPlanName}, "x.x": {0, api.ErrPlanName}, "\tab.0": {0, api.ErrPlanName}, "ab,0": {0, api.ErrPlanName},
	} {
		for _, line := range []string{"edge W", "edge  W c.0", "edge W x.x x", "edge c.0 W", "  edge c.0   W x"} {
			begin := strings.IndexByte(line, 'W')
			g.wantFault(t, "P6.7", ahead+strings.Replace(line, "W", word, 1)+"\ntask d tee", 4, begin+fault.at, fault.err)
		}
	}
	g.wantFault(t, "P6.7", "plan 1\nedge ab.0 ab.0\ntask ab tee", 2, 5, api.ErrPlanName)
	g.wantFault(t, "P6.7", "plan 1\ntask ab tee\nedge ab.0 c.0\ntask c tee", 3, 10, api.ErrPlanName)
}

func TestEdgesAreBounded(t *testing.T) {
	g := plans()
	text, want := "plan 1\ntask a tee\n", oneTask(api.Task{Name: "a", Kind: api.Tee})
	for k := range 24 {
		text += fmt.Sprintf("edge a.%d a.0\n", k)
		want.Edges = append(want.Edges, api.Edge{Out: k})
	}
	g.wantThing(t, "P6.7", text, want)
	g.wantText(t, "P6.8", want, text, nil)
	for _, more := range []string{"edge a.0 a.0", "edge", "edge x y z", "edge a"} {
		g.wantFault(t, "P6.7", text+" "+more, 27, 1, api.ErrPlanMany)
	}
	g.wantTaken(t, "P6.7", text+"task b tee")
	want.Edges = append(want.Edges, api.Edge{})
	g.wantUnwritten(t, "P6.8", "25 edges", want)
}

func TestPlansThatCannotBeWritten(t *testing.T) {
	g := plans()
	for why, spoil := range map[string]func(p *api.Plan){
		"a Cap below 0":                 func(p *api.Plan) { p.Cap = -1 },
		"a Cap of ten digits":           func(p *api.Plan) { p.Cap = 1000000000 },
		"the least Cap":                 func(p *api.Plan) { p.Cap = -1 << 63 },
		"the greatest Cap":              func(p *api.Plan) { p.Cap = 1<<63 - 1 },
		"a Num below 0":                 func(p *api.Plan) { p.Tasks[0].Num = -1 },
		"a Num of ten digits":           func(p *api.Plan) { p.Tasks[0].Num = 1000000000 },
		"an Out below 0":                func(p *api.Plan) { p.Edges[1].Out = -1 },
		"an Out of ten digits":          func(p *api.Plan) { p.Edges[1].Out = 1000000000 },
		"an In below 0":                 func(p *api.Plan) { p.Edges[1].In = -1 },
		"an In of ten digits":           func(p *api.Plan) { p.Edges[1].In = 1000000000 },
		"kind 0":                        func(p *api.Plan) { p.Tasks[2].Kind = 0 },
		"kind 14":                       func(p *api.Plan) { p.Tasks[2].Kind = 14 },
		"kind -1":                       func(p *api.Plan) { p.Tasks[2].Kind = -1 },
		"a sink with a number":          func(p *api.Plan) { p.Tasks[2].Num = 1 },
		"a sink with a number below 0":  func(p *api.Plan) { p.Tasks[2].Num = -1 },
		"a map with a number":           func(p *api.Plan) { p.Tasks[1].Num = 1 },
		"a sink with an expression":     func(p *api.Plan) { p.Tasks[2].Exprs = []string{"1"} },
		"a source with an expression":   func(p *api.Plan) { p.Tasks[0].Exprs = []string{"1"} },
		"a sink with an empty one":      func(p *api.Plan) { p.Tasks[2].Exprs = []string{""} },
		"a map of no expressions":       func(p *api.Plan) { p.Tasks[1].Exprs = nil },
		"a map of one expression":       func(p *api.Plan) { p.Tasks[1].Exprs = []string{"key"} },
		"a map of three":                func(p *api.Plan) { p.Tasks[1].Exprs = []string{"key", "val", "val"} },
		"an expression with a fault":    func(p *api.Plan) { p.Tasks[1].Exprs[0] = "1 +" },
		"a second one with a fault":     func(p *api.Plan) { p.Tasks[1].Exprs[1] = "key ; key" },
		"an empty expression":           func(p *api.Plan) { p.Tasks[1].Exprs[1] = "" },
		"a From below 0":                func(p *api.Plan) { p.Edges[0].From = -1 },
		"a From that no task has":       func(p *api.Plan) { p.Edges[0].From = 3 },
		"a To below 0":                  func(p *api.Plan) { p.Edges[0].To = -1 },
		"a To that no task has":         func(p *api.Plan) { p.Edges[0].To = 3 },
		"an edge and no task":           func(p *api.Plan) { p.Tasks = nil },
		"a name that is none":           func(p *api.Plan) { p.Tasks[0].Name = "" },
		"a tail of two expressions":     func(p *api.Plan) { p.Tasks[1] = api.Task{Name: "t", Kind: api.Tail, Exprs: []string{"1", "2"}} },
		"a tail of none":                func(p *api.Plan) { p.Tasks[1] = api.Task{Name: "t", Kind: api.Tail} },
		"a tail with a number below 0":  func(p *api.Plan) { p.Tasks[1] = api.Task{Name: "t", Kind: api.Tail, Exprs: []string{"1"}, Num: -1} },
		"a window with a number beyond": func(p *api.Plan) { p.Tasks[1] = api.Task{Name: "t", Kind: api.Window, Num: 1 << 40} },
	} {
		p := smallPlan()
		spoil(&p)
		g.wantUnwritten(t, "P6.8", why, p)
	}
	p := smallPlan()
	p.Cap, p.Tasks[0].Num, p.Edges[0].Out, p.Edges[1].In = 999999999, 999999999, 999999999, 999999999
	g.wantText(t, "P6.8", p, "plan 999999999\ntask s source 999999999\ntask m map key ; val+1\ntask k sink\nedge s.999999999 m.0\nedge m.0 k.999999999\n", nil)
	g.wantText(t, "P6.8", api.Plan{}, "plan 0\n", nil)
	g.wantText(t, "P6.8", api.Plan{Tasks: []api.Task{}, Edges: []api.Edge{}}, "plan 0\n", nil)
}

// longPlan gives a plan whose text has n bytes.
func longPlan(t *testing.T, n int) api.Plan {
	t.Helper()
	p := api.Plan{}
	for k := range 12 {
		p.Tasks = append(p.Tasks, api.Task{Name: string(rune('a'+k)) + "234567", Kind: api.Map, Exprs: []string{strings.Repeat("1+", 49) + "11", strings.Repeat("1+", 49) + "11"}})
	}
	for range 4 {
		p.Edges = append(p.Edges, api.Edge{})
	}
	for k := 0; ; k++ {
		s, ok := modelPlanText(p)
		if !ok && len(s) == 0 {
			t.Fatal("the model does not write the plan")
		}
		switch left := n - len(s); {
		case left == 0:
			return p
		case left > 0 && left < 9:
			p.Cap = map[int]int{1: 10, 2: 100, 3: 1000, 4: 10000, 5: 100000, 6: 1000000, 7: 10000000, 8: 100000000}[left]
		case left > 0:
			p.Edges = append(p.Edges, api.Edge{})
		default:
			e := &p.Tasks[k%12].Exprs[k/12%2]
			*e = (*e)[2:]
		}
	}
}

func TestPlansOfAsManyBytesAsTheyMayHave(t *testing.T) {
	g := plans()
	for n := 2985; n <= 3000; n++ {
		p := longPlan(t, n)
		want, _ := modelPlanText(p)
		g.wantText(t, "P6.8", p, want, nil)
	}
	for n := 3001; n <= 3010; n++ {
		g.wantUnwritten(t, "P6.8", fmt.Sprint("a plan of ", n, " bytes"), longPlan(t, n))
	}
}
