package plan_test

import (
	"strings"
	"testing"

	"eddy/api"
)

// something gives a text of the tongue without a fault, and what it means.
func (g tongue) something() (string, any) {
	switch g.name {
	case "Plan":
		return "plan 3", api.Plan{Cap: 3}
	case "Tape":
		return `"a" 5`, []api.Record{{Key: "a", Val: num(5)}}
	}
	return "post", []api.Op{{Kind: api.OpPost}}
}

func TestTextsOfAsManyBytesAsTheyMayHave(t *testing.T) {
	for _, g := range tongues() {
		s, want := g.something()
		g.wantThing(t, "P6.1", filled(s, g.most-1), want)
		g.wantThing(t, "P6.1", filled(s, g.most), want)
		for _, n := range []int{g.most + 1, g.most + 2, 2 * g.most, 1 << 20} {
			g.wantFault(t, "P6.1", filled(s, n), 0, 0, api.ErrPlanLong)
			g.wantFault(t, "P6.1", filled("what", n), 0, 0, api.ErrPlanLong)
			g.wantFault(t, "P6.1", strings.Repeat("\n", n), 0, 0, api.ErrPlanLong)
			g.wantFault(t, "P6.1", strings.Repeat(" ", n), 0, 0, api.ErrPlanLong)
		}
		g.wantThing(t, "P6.1", s+strings.Repeat("\n", g.most-len(s)), want)
		g.wantThing(t, "P6.1", strings.Repeat("\n", g.most-len(s))+s, want)
		g.wantThing(t, "P6.1", strings.Repeat(" ", g.most-len(s))+s, want)
	}
	// The bytes are counted, not the runes.
	plans().wantThing(t, "P6.1", "plan 3\n#"+strings.Repeat("é", 1496), api.Plan{Cap: 3})
	plans().wantFault(t, "P6.1", "plan 3\n#"+strings.Repeat("é", 1497), 0, 0, api.ErrPlanLong)
}

func TestLinesThatArePassedOver(t *testing.T) {
	for _, g := range tongues() {
		s, want := g.something()
		for _, passed := range []string{"", " ", "   ", "#", "#x", "##", "# plan 3", "  # what", " #\t\xff\x00", "#\r", "# \"a\" 5", "#post"} {
			g.wantThing(t, "P6.1", lines(passed, s), want)
			g.wantThing(t, "P6.1", lines(s, passed), want)
			g.wantThing(t, "P6.1", lines(passed, passed, " "+s+"  ", passed, "", passed, ""), want)
			g.wantFault(t, "P6.1", lines(passed, s, passed, "  what"), 4, 2, map[string]api.Errno{"Plan": api.ErrPlanWord, "Tape": api.ErrPlanValue, "Script": api.ErrPlanWord}[g.name])
		}
	}
	for _, s := range []string{"", " ", "\n", "\n\n", "# x", "\n#\n  \n # y\n"} {
		tapes().wantThing(t, "P6.1", s, []api.Record{})
		scripts().wantThing(t, "P6.1", s, []api.Op{})
	}
}

// TestLinesEndAtALineFeedAlone: each other byte belongs to its line.
func TestLinesEndAtALineFeedAlone(t *testing.T) {
	for _, c := range []string{"\r", "\t", "\v", "\f", "\x00", "\u0085", "\u00a0", "\u2028", "\xff", "\\n"} {
		plans().wantFault(t, "P6.1", c+"plan 3", 1, 0, api.ErrPlanWord)
		plans().wantFault(t, "P6.1", "plan"+c+"3", 1, 0, api.ErrPlanWord)
		plans().wantFault(t, "P6.1", "plan 3"+c, 1, 5, api.ErrPlanNumber)
		plans().wantFault(t, "P6.1", "plan 3 "+c, 1, 7, api.ErrPlanWord)
		plans().wantFault(t, "P6.1", c, 1, 0, api.ErrPlanWord)
		plans().wantFault(t, "P6.1", c+"# plan 3", 1, 0, api.ErrPlanWord)
		tapes().wantFault(t, "P6.1", c+`"a" 5`, 1, 0, api.ErrPlanValue)
		tapes().wantFault(t, "P6.1", c, 1, 0, api.ErrPlanValue)
		tapes().wantFault(t, "P6.1", " "+c+"#", 1, 1, api.ErrPlanValue)
		scripts().wantFault(t, "P6.1", "post"+c+"post", 1, 0, api.ErrPlanWord)
		scripts().wantFault(t, "P6.1", "post\n"+c, 2, 0, api.ErrPlanWord)
		scripts().wantFault(t, "P6.1", "pick 1"+c+"2 3", 1, 5, api.ErrPlanNumber)
		scripts().wantFault(t, "P6.1", "  "+c+"# post", 1, 2, api.ErrPlanWord)
	}
	for _, s := range []string{"post\r\n", "post\r\npost"} {
		scripts().wantFault(t, "P6.1", s, 1, 0, api.ErrPlanWord)
	}
}

// TestANoteBeginsALine: a # that isn't the first byte of its line is a byte as any other.
func TestANoteBeginsALine(t *testing.T) {
	plans().wantFault(t, "P6.1", "plan 3 # x", 1, 7, api.ErrPlanWord)
	plans().wantFault(t, "P6.1", "plan 3#", 1, 5, api.ErrPlanNumber)
	tapes().wantFault(t, "P6.1", `"a" 5 # x`, 1, 6, api.ErrValSyntax)
	tapes().wantThing(t, "P6.1", `"#" "#"`, []api.Record{{Key: "#", Val: text("#")}})
	scripts().wantFault(t, "P6.1", "post # x", 1, 5, api.ErrPlanWord)
	scripts().wantFault(t, "P6.1", "recover 1 # x", 1, 10, api.ErrPlanNumber)
	plans().wantFault(t, "P6.1", "plan 3\ntask a filter key # x", 2, 18, api.ErrExprByte)
}

func TestTheFirstFaultIsTheAnswer(t *testing.T) {
	plans().wantFault(t, "P6.2", "plan x y\nwhat", 1, 5, api.ErrPlanNumber)
	plans().wantFault(t, "P6.2", "plan 1 y\nwhat", 1, 7, api.ErrPlanWord)
	plans().wantFault(t, "P6.2", "plan 1\ntask A what x\nwhat", 2, 5, api.ErrPlanName)
	plans().wantFault(t, "P6.2", "plan 1\ntask a what x\nwhat", 2, 7, api.ErrPlanWord)
	plans().wantFault(t, "P6.2", "plan 1\ntask a source x y\nwhat", 2, 14, api.ErrPlanNumber)
	plans().wantFault(t, "P6.2", "plan 1\ntask a map what ; what ; what\nwhat", 2, 11, api.ErrExprName)
	plans().wantFault(t, "P6.2", "plan 1\ntask a map key ; what ; what\nwhat", 2, 17, api.ErrExprName)
	plans().wantFault(t, "P6.2", "plan 1\ntask a map key ; val ; what\nwhat", 2, 21, api.ErrPlanWord)
	plans().wantFault(t, "P6.2", "plan 1\ntask a tee\nedge b.x c.x x", 3, 5, api.ErrPlanName)
	plans().wantFault(t, "P6.2", "plan 1\ntask a tee\nedge a.x c.x x", 3, 7, api.ErrPlanNumber)
	plans().wantFault(t, "P6.2", "plan 1\ntask a tee\nedge a.1 c.x x", 3, 9, api.ErrPlanName)
	plans().wantFault(t, "P6.2", "plan 1\ntask a tee\nedge a.1 a.x x", 3, 11, api.ErrPlanNumber)
	plans().wantFault(t, "P6.2", "plan 1\ntask a tee\nedge a.1 a.2 x", 3, 13, api.ErrPlanWord)
	tapes().wantFault(t, "P6.2", "\"abcdefghijklm\" x\nx", 1, 0, api.ErrValKey)
	tapes().wantFault(t, "P6.2", "\"a\" x\nx", 1, 4, api.ErrValSyntax)
	scripts().wantFault(t, "P6.2", "pick x y z\nwhat", 1, 5, api.ErrPlanNumber)
	scripts().wantFault(t, "P6.2", "pick 1 y z\nwhat", 1, 7, api.ErrPlanNumber)
	scripts().wantFault(t, "P6.2", "pick 1 2 z\nwhat", 1, 9, api.ErrPlanWord)
	scripts().wantFault(t, "P6.2", "repeat 0 x\nwhat", 1, 7, api.ErrPlanNumber)
	scripts().wantFault(t, "P6.2", "repeat 1\nwhat", 2, 0, api.ErrPlanWord)
}

// TestMissingWords: each line without its last words, with blanks at its end and without.
func TestMissingWords(t *testing.T) {
	const ahead = "plan 1\ntask a tee\n"
	for s, e := range map[string]api.Errno{
		"task": api.ErrPlanName, "task b": api.ErrPlanWord, "task b source": api.ErrPlanNumber, "task b window": api.ErrPlanNumber,
		"task b filter": api.ErrExprToken, "task b map": api.ErrExprToken, "task b map key": api.ErrPlanWord, "task b map key;": api.ErrExprToken, "task b fold": api.ErrExprToken, "task b fold 1": api.ErrPlanWord,
		"task b split": api.ErrExprToken, "task b tail": api.ErrExprToken, "task b tail key": api.ErrPlanWord, "task b tail key;": api.ErrPlanNumber,
		"edge": api.ErrPlanName, "edge a.0": api.ErrPlanName,
	} {
		for n := range 4 {
			blanks := strings.Repeat(" ", n)
			plans().wantFault(t, "P6.2", ahead+s+blanks, 3, len(s)+n, e)
			plans().wantFault(t, "P6.2", ahead+s+blanks+"\n", 3, len(s)+n, e)
			plans().wantFault(t, "P6.2", ahead+blanks+s+"\ntask c what", 3, len(s)+n, e)
		}
	}
	for s, e := range map[string]api.Errno{
		"pick": api.ErrPlanNumber, "pick 1": api.ErrPlanNumber, "spoil": api.ErrPlanNumber, "spoil -2": api.ErrPlanNumber, "arm": api.ErrPlanNumber,
		"fail": api.ErrPlanNumber, "fail 1 after": api.ErrPlanNumber, "recover arm": api.ErrPlanNumber, "repeat": api.ErrPlanNumber,
	} {
		for n := range 4 {
			blanks := strings.Repeat(" ", n)
			scripts().wantFault(t, "P6.2", s+blanks, 1, len(s)+n, e)
			scripts().wantFault(t, "P6.2", "post\n"+s+blanks+"\npost", 2, len(s)+n, e)
		}
	}
	for n := range 4 {
		plans().wantFault(t, "P6.2", "plan"+strings.Repeat(" ", n), 1, 4+n, api.ErrPlanNumber)
	}
}

// TestAWordTooMany: each line that is whole, with a word behind it.
func TestAWordTooMany(t *testing.T) {
	const ahead = "plan 1\ntask a tee\n"
	for _, word := range []string{"x", "0", ";", "#", "end", "\t", "-"} {
		for _, s := range []string{"task b source 1", "task b window 1", "task b union", "task b tee", "task b join", "task b dedup", "task b head", "task b sink", "task b tail val;3", "edge a.0 a.0"} {
			plans().wantTaken(t, "P6.2", ahead+s+"  ")
			plans().wantFault(t, "P6.2", ahead+s+"  "+word+" y", 3, len(s)+2, api.ErrPlanWord)
		}
		plans().wantFault(t, "P6.2", "plan 1 "+word, 1, 7, api.ErrPlanWord)
		for _, s := range []string{"pick 1 2", "trigger", "post", "abort", "crash", "arm 1", "fail 1 after 2", "spoil 1 2"} {
			scripts().wantTaken(t, "P6.2", s+" ")
			scripts().wantFault(t, "P6.2", s+" "+word+" y", 1, len(s)+1, api.ErrPlanWord)
		}
		scripts().wantFault(t, "P6.2", "repeat 1 "+word+"\nend", 1, 9, api.ErrPlanWord)
		scripts().wantFault(t, "P6.2", "repeat 1\nend "+word, 2, 4, api.ErrPlanWord)
		scripts().wantFault(t, "P6.2", "fail 1 "+word, 1, 7, api.ErrPlanWord)
	}
}

// TestNumbers: every place of a number takes the same ones; those with a - just where the chapter says so.
func TestNumbers(t *testing.T) {
	plain := map[string]int{"0": 0, "7": 7, "00": 0, "007": 7, "000000000": 0, "000000001": 1, "123456789": 123456789, "999999999": 999999999}
	below := map[string]int{"-0": 0, "-7": -7, "-007": -7, "-000000000": 0, "-999999999": -999999999}
	wrong := []string{"1234567890", "0000000000", "1000000000", "-1234567890", "--1", "-", "+1", "1-", "1.", ".1", "1e3", "0x1", "1_0", "x", "1x", "x1", "\u0661", "1\u00e9", "1\t", "9999999999999999999999"}
	places := []struct {
		g      tongue
		text   string // N stands for the number
		signed bool
		at     func(any) int
	}{
		{plans(), "plan N", false, func(x any) int { return x.(api.Plan).Cap }},
		{plans(), "plan 1\ntask a source N", false, func(x any) int { return x.(api.Plan).Tasks[0].Num }},
		{plans(), "plan 1\ntask a window N", false, func(x any) int { return x.(api.Plan).Tasks[0].Num }},
		{plans(), "plan 1\ntask a tail val; N", false, func(x any) int { return x.(api.Plan).Tasks[0].Num }},
		{plans(), "plan 1\ntask a tee\nedge a.N a.0", false, func(x any) int { return x.(api.Plan).Edges[0].Out }},
		{plans(), "plan 1\ntask a tee\nedge a.0 a.N", false, func(x any) int { return x.(api.Plan).Edges[0].In }},
		{scripts(), "pick N 1", true, func(x any) int { return x.([]api.Op)[0].A }},
		{scripts(), "pick 1 N", true, func(x any) int { return x.([]api.Op)[0].B }},
		{scripts(), "arm N", true, func(x any) int { return x.([]api.Op)[0].A }},
		{scripts(), "fail N", true, func(x any) int { return x.([]api.Op)[0].A }},
		{scripts(), "fail N after 1", true, func(x any) int { return x.([]api.Op)[0].A }},
		{scripts(), "fail 1 after N", true, func(x any) int { return x.([]api.Op)[0].B }},
		{scripts(), "spoil N 1", true, func(x any) int { return x.([]api.Op)[0].A }},
		{scripts(), "spoil 1 N", true, func(x any) int { return x.([]api.Op)[0].B }},
		{scripts(), "recover N", true, func(x any) int { return x.([]api.Op)[0].Keep[0] }},
		{scripts(), "recover 1 N 3", true, func(x any) int { return x.([]api.Op)[0].Keep[1] }},
		{scripts(), "recover arm N", false, func(x any) int { return x.([]api.Op)[0].A - 1 }},
		{scripts(), "recover arm 2 N", true, func(x any) int { return x.([]api.Op)[0].Keep[0] }},
	}
	for _, p := range places {
		// The number stands in the last line.
		at, line := strings.IndexByte(p.text, 'N')-strings.LastIndexByte(p.text, '\n')-1, strings.Count(p.text, "\n")+1
		taken := func(word string, want int) {
			s := strings.Replace(p.text, "N", word, 1)
			if thing, err := p.g.parse(s); err != nil || p.at(thing) != want {
				t.Errorf("P6.3: Parse%s(%q) answers %s, %v, want the number %d", p.g.name, s, shown(thing), err, want)
			}
		}
		refused := func(word string) {
			p.g.wantFault(t, "P6.3", strings.Replace(p.text, "N", word, 1), line, at, api.ErrPlanNumber)
		}
		for word, want := range plain {
			taken(word, want)
		}
		for word, want := range below {
			if p.signed {
				taken(word, want)
			} else {
				refused(word)
			}
		}
		for _, word := range wrong {
			refused(word)
		}
	}
	for _, word := range append(wrong, "0", "-1", "000", "2001", "999999999") {
		scripts().wantFault(t, "P6.12", "repeat "+word+"\nend", 1, 7, api.ErrPlanNumber)
	}
	for word, want := range map[string]int{"1": 1, "001": 1, "2": 2, "1999": 1999, "2000": 2000, "000002000": 2000} {
		if l, err := scripts().parse("repeat " + word + "\npost\nend"); err != nil || len(l.([]api.Op)) != want {
			t.Errorf("P6.12: a repeat of %s has %s, %v", word, shown(l), err)
		}
	}
}

func TestNames(t *testing.T) {
	for _, name := range []string{"a", "z", "a0", "z9", "abcdefgh", "a1234567", "task", "edge", "plan", "tee"} {
		plans().wantThing(t, "P6.3", "plan 1\ntask "+name+" tee\nedge "+name+".1 "+name+".2", api.Plan{Cap: 1, Tasks: []api.Task{{Name: name, Kind: api.Tee}}, Edges: []api.Edge{{Out: 1, In: 2}}})
		plans().wantText(t, "P6.8", api.Plan{Tasks: []api.Task{{Name: name, Kind: api.Tee}}}, "plan 0\ntask "+name+" tee\n", nil)
	}
	for _, name := range []string{"abcdefghi", "a12345678", "0", "0a", "A", "aB", "a_b", "a.b", "a-b", "é", "aé", "`a", "{a", "a`", "a{", "a/", "a:", "\ta", "a\t", "a;", "\"a\"", strings.Repeat("a", 200)} {
		plans().wantFault(t, "P6.5", "plan 1\ntask "+name+" tee", 2, 5, api.ErrPlanName)
		plans().wantUnwritten(t, "P6.8", "the name "+name, api.Plan{Tasks: []api.Task{{Name: name, Kind: api.Tee}}})
	}
	for _, name := range []string{"", " ", "a b", " a", "a ", "a\n"} {
		plans().wantUnwritten(t, "P6.8", "the name "+name, api.Plan{Tasks: []api.Task{{Name: name, Kind: api.Tee}}})
	}
}
