package plan_test

import (
	"fmt"
	"slices"
	"strings"
	"testing"

	"eddy/api"
)

func TestTapeExamples(t *testing.T) {
	g := tapes()
	g.wantThing(t, "P6, example 5", lines(`"a" 5`, `"b"[1,2]`), []api.Record{{Key: "a", Val: num(5)}, {Key: "b", Val: list(num(1), num(2))}})
	g.wantFault(t, "P6, example 5", `"a"`, 1, 3, api.ErrValSyntax)
	g.wantFault(t, "P6, example 5", `a 5`, 1, 0, api.ErrPlanValue)
	g.wantFault(t, "P6, example 5", `"abcdefghijklm" 1`, 1, 0, api.ErrValKey)
	g.wantFault(t, "P6, example 5", `"a" 01`, 1, 5, api.ErrValSyntax)
}

func TestRecordsOfATape(t *testing.T) {
	g := tapes()
	for text, want := range map[string]api.Record{
		`"" none`: {}, `"a"5`: {Key: "a", Val: num(5)}, `"a"none`: {Key: "a"}, `"a"[]`: {Key: "a", Val: list()}, `  "a"   5  `: {Key: "a", Val: num(5)}, "\"a\"\t5\t": {Key: "a", Val: num(5)}, `"a""b"`: {Key: "a", Val: text("b")},
		`"a b" "c d"`: {Key: "a b", Val: text("c d")}, `"\"" 1`: {Key: `"`, Val: num(1)}, `"\\" 1`: {Key: `\`, Val: num(1)}, `"\\\"" 1`: {Key: `\"`, Val: num(1)}, `"\\" "\""`: {Key: `\`, Val: text(`"`)}, `"\n\t\x00\xfF" -9223372036854775808`: {Key: "\n\t\x00\xff", Val: num(-1 << 63)},
		`"é" "é"`: {Key: "é", Val: text("é")}, `"#" 1`: {Key: "#", Val: num(1)}, `"abcdefghijkl" 1`: {Key: "abcdefghijkl", Val: num(1)}, `"\x61bcdefghijkl" 1`: {Key: "abcdefghijkl", Val: num(1)}, `"éééééé" 1`: {Key: "éééééé", Val: num(1)},
		`"a" [[1, "x"], none, []]`: {Key: "a", Val: list(list(num(1), text("x")), api.Value{}, list())}, `"a" "` + strings.Repeat("b", 24) + `"`: {Key: "a", Val: text(strings.Repeat("b", 24))},
	} {
		g.wantThing(t, "P6.10", text, []api.Record{want})
		g.wantThing(t, "P6.10", lines("", text, "#", text), []api.Record{want, want})
	}
}

func TestFaultsOfATape(t *testing.T) {
	g := tapes()
	for _, c := range []struct {
		text string
		at   int
		err  api.Errno
	}{
		// What is no key.
		{"5", 0, api.ErrPlanValue}, {"none none", 0, api.ErrPlanValue}, {"['a'] 1", 0, api.ErrPlanValue}, {`\"a" 1`, 0, api.ErrPlanValue}, {"'a' 1", 0, api.ErrPlanValue}, {`[ "a" ] 1`, 0, api.ErrPlanValue}, {"-", 0, api.ErrPlanValue},
		// Keys with faults.
		{`"`, 1, api.ErrValSyntax}, {`"a`, 2, api.ErrValSyntax}, {`"a 5  `, 6, api.ErrValSyntax}, {`"a\" 5`, 6, api.ErrValSyntax}, {`"a\`, 3, api.ErrValSyntax}, {`"\q" 1`, 2, api.ErrValSyntax}, {`"\xg0" 1`, 3, api.ErrValSyntax}, {`"\x0" 1`, 4, api.ErrValSyntax}, {`"\x`, 3, api.ErrValSyntax}, {"\"a\tb\" 1", 2, api.ErrValSyntax}, {"\"\xff\" 1", 1, api.ErrValSyntax}, {"\"a\x7f\" 1", 2, api.ErrValSyntax}, {"\"a\rb", 2, api.ErrValSyntax},
		// Keys that are too long: a text first, then a key.
		{`"abcdefghijklm" 1`, 0, api.ErrValKey}, {`"abcdefghijklm"`, 0, api.ErrValKey}, {`"abcdefghijklm" 01`, 0, api.ErrValKey}, {`"` + strings.Repeat("a", 24) + `" 1`, 0, api.ErrValKey}, {`"` + strings.Repeat("a", 25) + `" 1`, 0, api.ErrValText}, {`"` + strings.Repeat("a", 25), 26, api.ErrValSyntax}, {`"` + strings.Repeat("é", 7) + `" 1`, 0, api.ErrValKey}, {`"` + strings.Repeat(`\x41`, 13) + `" 1`, 0, api.ErrValKey},
		// Values with faults.
		{`"a"`, 3, api.ErrValSyntax}, {`"a"  `, 5, api.ErrValSyntax}, {"\"a\" \t ", 6, api.ErrValSyntax}, {`"a" x`, 4, api.ErrValSyntax}, {`"a" 1 2`, 6, api.ErrValSyntax}, {`"a" 1"`, 5, api.ErrValSyntax}, {`"a"x`, 3, api.ErrValSyntax}, {`"a" -0`, 5, api.ErrValSyntax}, {`"a" [1,`, 7, api.ErrValSyntax}, {`"a" "b`, 6, api.ErrValSyntax}, {`"a" [[[[1]]]]`, 7, api.ErrValDepth}, {`"a"[[[[1]]]]`, 6, api.ErrValDepth}, {`"a" 9223372036854775808`, 4, api.ErrValInt}, {`"a" [0,1,2,3,4,5,6]`, 16, api.ErrValItems}, {`"a" "` + strings.Repeat("b", 25) + `"`, 4, api.ErrValText}, {`"\\" x`, 5, api.ErrValSyntax}, {`"\\\"" x`, 7, api.ErrValSyntax}, {`"a" "b" "c"`, 8, api.ErrValSyntax}, {`"a""b`, 5, api.ErrValSyntax}, {"\"a\" 1\r", 5, api.ErrValSyntax},
	} {
		g.wantFault(t, "P6.10", c.text, 1, c.at, c.err)
		g.wantFault(t, "P6.10", lines(`"a" 1`, "", "   "+c.text, "x"), 3, c.at+3, c.err)
	}
}

func TestTapesAreBounded(t *testing.T) {
	g := tapes()
	var want []api.Record
	text := ""
	for k := range 64 {
		want = append(want, api.Record{Key: fmt.Sprint(k), Val: num(int64(k))})
		text += fmt.Sprintf("\"%d\" %d\n", k, k)
	}
	g.wantThing(t, "P6.10", text, want)
	g.wantText(t, "P6.11", want, text, nil)
	for _, more := range []string{`"a" 1`, `"a"`, "a", "what", `"abcdefghijklm" 1`, "\t"} {
		g.wantFault(t, "P6.10", text+"\n  "+more, 66, 2, api.ErrPlanMany)
	}
	g.wantThing(t, "P6.10", text+"\n# x\n  ", want)
	g.wantUnwritten(t, "P6.11", "65 records", append(want, api.Record{}))
}

func TestPrintTape(t *testing.T) {
	g := tapes()
	g.wantText(t, "P6.11", []api.Record{}, "", nil)
	g.wantText(t, "P6.11", []api.Record{{Loops: []int{}}}, "\"\" none\n", nil)
	g.wantText(t, "P6.11", []api.Record{
		{Key: "a", Val: num(-5)}, {Key: "\n\t\"\\\x00é\xff", Val: list(text("\n"), list(), api.Value{})}, {Key: "abcdefghijkl", Val: text("#")},
	}, "\"a\" -5\n"+`"\n\t\"\\\x00é\xff" ["\n", [], none]`+"\n"+`"abcdefghijkl" "#"`+"\n", nil)
}

func TestTapesThatCannotBeWritten(t *testing.T) {
	g := tapes()
	for why, r := range map[string]api.Record{
		"a key of 13 bytes":       {Key: "abcdefghijklm"},
		"a text of 25 bytes":      {Val: text(strings.Repeat("a", 25))},
		"a kind that isn't":       {Val: api.Value{Kind: 4}},
		"a field of another kind": {Val: api.Value{Kind: api.Int, Text: "a"}},
		"seven items":             {Val: list(slices.Repeat([]api.Value{num(1)}, 7)...)},
		"lists too deep":          {Val: list(list(list(list())))},
		"a loop counter":          {Loops: []int{0}},
		"three loop counters":     {Key: "a", Val: num(1), Loops: []int{1, 2, 3}},
		"a counter that isn't":    {Loops: []int{-1}},
		"four counters":           {Loops: make([]int, 4)},
	} {
		g.wantUnwritten(t, "P6.11", why, []api.Record{r})
		g.wantUnwritten(t, "P6.11", why, []api.Record{{Key: "a"}, r, {Key: "b"}})
	}
}

// longTape gives a tape whose text has n bytes.
func longTape(n int) []api.Record {
	var l []api.Record
	left := n
	for left > 0 {
		// A record without letters takes six bytes: the quotes, a blank, quotes again, a line feed.
		size := min(left, 66)
		if left-size > 0 && left-size < 6 {
			size -= 6
		}
		l = append(l, api.Record{Key: strings.Repeat("k", min(size-6, 12)), Val: text(strings.Repeat("v", max(0, min(size-18, 24))))})
		if rest := size - 42; rest > 0 {
			// A byte that is written with a backslash takes one more.
			l[len(l)-1].Val.Text = strings.Repeat(`"`, rest) + l[len(l)-1].Val.Text[rest:]
		}
		left -= size
	}
	return l
}

func TestTapesOfAsManyBytesAsTheyMayHave(t *testing.T) {
	g := tapes()
	for n := 3985; n <= 4010; n++ {
		l := longTape(n)
		want, _ := modelTapeText(l)
		if len(want) != n || len(l) > 64 {
			t.Fatalf("a tape of %d bytes has %d, and %d records", n, len(want), len(l))
		}
		if n <= 4000 {
			g.wantText(t, "P6.11", l, want, nil)
		} else {
			g.wantUnwritten(t, "P6.11", fmt.Sprint("a tape of ", n, " bytes"), l)
		}
	}
}
