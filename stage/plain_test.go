package stage_test

import (
	"fmt"
	"math"
	"math/big"
	"strings"
	"testing"

	"eddy/api"
)

// someRecords are valid records: every kind of value, with and without counters, keys up to the longest.
func someRecords() []api.Record {
	all := []api.Record{{}, {Key: "\x00\xff", Val: text("\xff\"")}, {Key: strings.Repeat("k", 12), Val: list(list(list(), num(1)), text(strings.Repeat("t", 24))), Loops: []int{9, 0, 9}}}
	for _, s := range []string{"a=none", "a=0", "b=-1@3", "=5@0@9", `c="text"@1`, `a=""`, "a=[]", "a=[1, [none, [2]]]@1@2@3", "a=9223372036854775807", "a=-9223372036854775808"} {
		all = append(all, rec(s))
	}
	return all
}

func TestASourceSendsAndCounts(t *testing.T) {
	for n := range api.MaxTapes {
		g := of(t, api.Source, n)
		g.runs(t, "P8.5", "0", move{0, "a=1@2", "1", "0 a=1@2"}, move{0, "b=none", "2", "0 b=none"}, move{0, "a=1", "3", "0 a=1"})
		for _, r := range someRecords() {
			g.wants(t, "P8.5", state("41"), 0, r, state("42"), []api.Send{{Out: 0, Rec: r}})
		}
	}
}

func TestASinkCounts(t *testing.T) {
	g := of(t, api.Sink, 0)
	g.runs(t, "P8.17", "0", move{0, "a=1", "1", ""}, move{0, "a=1", "2", ""}, move{0, "b=[]@1", "3", ""})
	for _, r := range someRecords() {
		g.wants(t, "P8.17", state("41"), 0, r, state("42"), nil)
	}
}

func TestAUnionSendsWhateverPort(t *testing.T) {
	for ins := 1; ins <= api.MaxPorts; ins++ {
		g := made(t, task(api.Union, 0), ins, 1)
		for port := range ins {
			for _, r := range someRecords() {
				g.wants(t, "P8.9", api.State{}, port, r, api.State{}, []api.Send{{Out: 0, Rec: r}})
			}
		}
	}
}

func TestATeeSendsAtEveryPort(t *testing.T) {
	for outs := 1; outs <= api.MaxPorts; outs++ {
		g := made(t, task(api.Tee, 0), 1, outs)
		for _, r := range someRecords() {
			var want []api.Send
			for out := range outs {
				want = append(want, api.Send{Out: out, Rec: r})
			}
			g.wants(t, "P8.11", api.State{}, 0, r, api.State{}, want)
		}
	}
}

func TestAMapsKeyAndValue(t *testing.T) {
	g := of(t, api.Map, 0, "val", "key")
	g.runs(t, "P8.6", "0",
		move{0, `ab=[1, "x"]@3`, "0", `0 [1, "x"]="ab"@3`},
		move{0, `k=none`, "0", `0 none="k"`},
		move{0, `k="k"@1@2`, "0", `0 k="k"@1@2`})
	both := of(t, api.Map, 0, `"new" + key`, `[key, val, hops, acc]`)
	both.runs(t, "P8.6", "0",
		move{0, "k=1@4", "0", `0 newk=["k", 1, 4, none]@4`},
		move{0, "=none", "0", `0 new=["", none, none, none]`})
	cut := of(t, api.Map, 0, "val", "val")
	cut.runs(t, "P8.6", "0", move{0, "k=none", "0", "0 none=none"}, move{0, "k=[]@1", "0", "0 []=[]@1"})
}

// TestAMapsKeyOfEveryKind: a text's bytes, of all else the printed text; of 11 to 14 bytes.
func TestAMapsKeyOfEveryKind(t *testing.T) {
	g := of(t, api.Map, 0, "val", "1")
	for _, c := range []struct {
		v   api.Value
		key string
	}{
		{none, "none"}, {num(0), "0"}, {num(-7), "-7"}, {num(math.MinInt64), "-92233720368"}, {num(math.MaxInt64), "922337203685"},
		{num(12345678901), "12345678901"}, {num(123456789012), "123456789012"}, {num(1234567890123), "123456789012"}, {num(-12345678901), "-12345678901"}, {num(-123456789012), "-12345678901"},
		{text(""), ""}, {text("none"), "none"}, {text(`a"b\`), `a"b\`}, {text("\n\t\x00\xff"), "\n\t\x00\xff"}, {text("[1]"), "[1]"},
		{text("elevenbytes"), "elevenbytes"}, {text("twelve bytes"), "twelve bytes"}, {text("thirteen byte"), "thirteen byt"}, {text("fourteen bytes"), "fourteen byt"}, {text(strings.Repeat("x", 24)), strings.Repeat("x", 12)},
		{text("elevenbytes\u00e9"), "elevenbytes\xc3"},
		{list(), "[]"}, {list(text("a\"")), `["a\""]`}, {list(num(1), none), "[1, none]"},
		{val("[1, 2, 3, 4]"), "[1, 2, 3, 4]"}, {val("[1, 2, 3, 45]"), "[1, 2, 3, 45"}, {val("[1, 2, 3, 4, 5]"), "[1, 2, 3, 4,"}, {list(list(list())), "[[[]]]"}, {list(text("\xff")), `["\xff"]`},
	} {
		r := api.Record{Key: "old", Val: c.v, Loops: []int{1}}
		g.wants(t, "P8.6", api.State{}, 0, r, api.State{}, []api.Send{{Rec: api.Record{Key: c.key, Val: num(1), Loops: []int{1}}}})
	}
}

// truths are expressions of every kind of value, and whether they are true; number is the int that a value is, 0 of all else.
func truths() []struct {
	text   string
	true   bool
	number int64
} {
	return []struct {
		text   string
		true   bool
		number int64
	}{
		{"none", false, 0}, {"0", false, 0}, {"1", true, 1}, {"2", true, 2}, {"3", true, 3}, {"4", true, 4}, {"5", true, 5}, {"11", true, 11}, {"12", true, 12},
		{"-1", true, -1}, {"-2", true, -2}, {"-3", true, -3}, {"-4", true, -4}, {"-5", true, -5}, {"-13", true, -13},
		{"9223372036854775807", true, math.MaxInt64}, {"-9223372036854775807-1", true, math.MinInt64}, {"-9223372036854775807", true, -math.MaxInt64},
		{`""`, false, 0}, {`"0"`, true, 0}, {`"7"`, true, 0}, {"[]", false, 0}, {"[0]", true, 0}, {"[7]", true, 0}, {"[none]", true, 0}, {"[[]]", true, 0},
		{"1/0", false, 0}, {"acc", false, 0}, {"len(acc)", false, 0},
	}
}

func TestAFilterPassesWhatIsTrue(t *testing.T) {
	for _, c := range truths() {
		g := of(t, api.Filter, 0, c.text)
		for _, r := range someRecords() {
			var want []api.Send
			if c.true {
				want = []api.Send{{Rec: r}}
			}
			g.wants(t, "P8.7", api.State{}, 0, r, api.State{}, want)
		}
	}
	g := of(t, api.Filter, 0, `val > 1 and key != "b" and hops != 3`)
	g.runs(t, "P8.7", "0", move{0, "a=1", "0", ""}, move{0, "a=2@0@1", "0", "0 a=2@0@1"}, move{0, "b=2", "0", ""}, move{0, "a=2@3", "0", ""}, move{0, "a=2@3@0", "0", "0 a=2@3@0"})
}

// rest is what x is above a multiple of outs.
func rest(x int64, outs int) int {
	return int(new(big.Int).Mod(big.NewInt(x), big.NewInt(int64(outs))).Int64())
}

func TestASplitSendsAtOnePort(t *testing.T) {
	for outs := 1; outs <= api.MaxPorts; outs++ {
		for _, c := range truths() {
			g := made(t, task(api.Split, 0, c.text), 1, outs)
			for _, r := range someRecords() {
				g.wants(t, "P8.10", api.State{}, 0, r, api.State{}, []api.Send{{Out: rest(c.number, outs), Rec: r}})
			}
		}
	}
	g := made(t, task(api.Split, 0, "val"), 1, 3)
	g.runs(t, "P8.10", "0", move{0, "a=-1", "0", "2 a=-1"}, move{0, `a="x"`, "0", `0 a="x"`}, move{0, "a=4@1", "0", "1 a=4@1"}, move{0, "a=-3", "0", "0 a=-3"}, move{0, "a=-4", "0", "2 a=-4"}, move{0, "a=[2]", "0", "0 a=[2]"}, move{0, "a=none", "0", "0 a=none"})
}

// TestASplitCountsDownwards: from far below 0 to far above it the port goes on by one.
func TestASplitCountsDownwards(t *testing.T) {
	for outs := 1; outs <= api.MaxPorts; outs++ {
		g := made(t, task(api.Split, 0, "val"), 1, outs)
		for x := -3 * outs; x <= 3*outs; x++ {
			r := rec(fmt.Sprintf("a=%d", x))
			g.wants(t, "P8.10", api.State{}, 0, r, api.State{}, []api.Send{{Out: (x + 3*outs) % outs, Rec: r}})
		}
		for _, edge := range []int64{math.MinInt64, math.MinInt64 + 1, math.MinInt64 + 2, math.MinInt64 + 3, math.MaxInt64 - 1, math.MaxInt64} {
			r := api.Record{Val: num(edge)}
			g.wants(t, "P8.10", api.State{}, 0, r, api.State{}, []api.Send{{Out: rest(edge, outs), Rec: r}})
		}
	}
}
