package value

import (
	"fmt"
	"strings"
	"testing"
	"unicode/utf8"

	"eddy/api"
)

// reading is a text, and what is to be read in it: a value and the number of its bytes, or a fault and its place.
type reading struct {
	s string
	v api.Value
	n int
	e api.Errno
}

func checkLead(t *testing.T, promise string, c reading) {
	t.Helper()
	if v, n, e := Lead(c.s); !same(v, c.v) || n != c.n || e != c.e {
		t.Errorf("%s: Lead(%q) = %+v, %d, %d; want %+v, %d, %d", promise, c.s, v, n, e, c.v, c.n, c.e)
	}
}

func checkParse(t *testing.T, promise string, c reading) {
	t.Helper()
	if v, n, e := Parse(c.s); !same(v, c.v) || n != c.n || e != c.e {
		t.Errorf("%s: Parse(%q) = %+v, %d, %d; want %+v, %d, %d", promise, c.s, v, n, e, c.v, c.n, c.e)
	}
}

// wholes are texts that are one value, with nothing around it.
func wholes() []reading {
	rows := []reading{
		{s: `none`, v: none},
		{s: `0`, v: num(0)}, {s: `1`, v: num(1)}, {s: `-1`, v: num(-1)}, {s: `10`, v: num(10)}, {s: `1234567890`, v: num(1234567890)}, {s: `-90`, v: num(-90)},
		{s: `9223372036854775807`, v: num(1<<63 - 1)}, {s: `-9223372036854775807`, v: num(-1<<63 + 1)}, {s: `-9223372036854775808`, v: num(-1 << 63)},
		{s: `""`, v: text("")}, {s: `"a b"`, v: text("a b")}, {s: `"\"\\\n\t"`, v: text("\"\\\n\t")}, {s: `"\x00\x7f\xff\xFF\xfF"`, v: text("\x00\x7f\xff\xff\xff")}, {s: `"\xab\xcd\xef\xAB\xCD\xEF"`, v: text("\xab\xcd\xef\xab\xcd\xef")}, {s: `"\x410\x0a"`, v: text("A0\n")},
		{s: `"[1, none]"`, v: text("[1, none]")}, {s: "\"\u0080\u009f\u00a0\"", v: text("\u0080\u009f\u00a0")}, {s: "\"\u00e9\u20ac\ufffd\U0010ffff\"", v: text("\u00e9\u20ac\ufffd\U0010ffff")}, {s: `"\xc3\xa9"`, v: text("\u00e9")}, {s: "\"\ufffd\\xff\"", v: text("\ufffd\xff")},
		{s: `"` + long(24) + `"`, v: text(long(24))}, {s: `"` + strings.Repeat(`\x61`, 24) + `"`, v: text(long(24))}, {s: `"` + strings.Repeat("\u00e9", 12) + `"`, v: text(strings.Repeat("\u00e9", 12))}, {s: `"` + strings.Repeat(`\n`, 24) + `"`, v: text(strings.Repeat("\n", 24))},
		{s: `[]`, v: list()}, {s: "[ \t \t]", v: list()}, {s: `[none]`, v: list(none)}, {s: `[1,2]`, v: list(num(1), num(2))}, {s: `[1, 2]`, v: list(num(1), num(2))}, {s: "[\t1 \t, \t2 \t]", v: list(num(1), num(2))}, {s: `[none,none]`, v: list(none, none)},
		{s: `["",""]`, v: list(text(""), text(""))}, {s: `["a,]","b"]`, v: list(text("a,]"), text("b"))}, {s: `[0,0]`, v: list(num(0), num(0))}, {s: `[[],[]]`, v: list(list(), list())}, {s: `[ [ [ ] ] ]`, v: nested(2)}, {s: `[[[1]]]`, v: list(list(list(num(1))))}, {s: `[[[1,2],[]],[[none]],-3]`, v: list(list(list(num(1), num(2)), list()), list(list(none)), num(-3))},
		{s: `[0,1,2,3,4,5]`, v: list(num(0), num(1), num(2), num(3), num(4), num(5))}, {s: `[[0,0,0,0,0,0],[0,0,0]]`, v: list(list(times(6, num(0))...), list(times(3, num(0))...))},
	}
	for k := range rows {
		rows[k].n = len(rows[k].s)
	}
	return rows
}

func TestLeadReadsEachForm(t *testing.T) {
	for _, c := range wholes() {
		checkLead(t, "P2.7", c)
	}
}

func TestLeadDoesNotLookAtWhatFollows(t *testing.T) {
	for _, c := range []reading{
		{`12ab`, num(12), 2, api.OK}, {`01`, num(0), 1, api.OK}, {`00`, num(0), 1, api.OK}, {`0x10`, num(0), 1, api.OK}, {`nonesuch`, none, 4, api.OK}, {`nonenone`, none, 4, api.OK},
		{`1 2`, num(1), 1, api.OK}, {`-5-`, num(-5), 2, api.OK}, {`1.5`, num(1), 1, api.OK}, {`1e3`, num(1), 1, api.OK}, {`1_0`, num(1), 1, api.OK}, {"7\xff", num(7), 1, api.OK}, {"7\x00", num(7), 1, api.OK},
		{`"a""b"`, text("a"), 3, api.OK}, {`""\`, text(""), 2, api.OK}, {"\"\"\xff", text(""), 2, api.OK}, {`[1]]`, list(num(1)), 3, api.OK}, {`[][`, list(), 2, api.OK}, {`[[]],`, nested(1), 4, api.OK}, {`[0,1,2,3,4,5],`, list(num(0), num(1), num(2), num(3), num(4), num(5)), 13, api.OK},
		{`[01]`, none, 2, api.ErrValSyntax}, {`[nonesuch]`, none, 5, api.ErrValSyntax}, {`[12ab]`, none, 3, api.ErrValSyntax},
	} {
		checkLead(t, "P2.7", c)
	}
	for _, c := range wholes() {
		for _, behind := range []string{" ", "\t", "]", "x", ",", "\"", "\xe9", " none"} {
			c := c
			c.s += behind
			checkLead(t, "P2.7", c)
		}
	}
}

func TestLeadTakesNoBlankAhead(t *testing.T) {
	for _, s := range []string{" 1", "\tnone", " ", "  []", "\n1", "\u00a01"} {
		checkLead(t, "P2.7", reading{s, none, 0, api.ErrValSyntax})
	}
}

// syntaxFaults are texts with a byte that cannot stand where it stands, or that end too early; the same for Lead and Parse.
func syntaxFaults() []reading {
	rows := []reading{
		{s: ``, n: 0}, {s: `n`, n: 1}, {s: `no`, n: 2}, {s: `non`, n: 3}, {s: `nonx`, n: 3}, {s: `nOne`, n: 1}, {s: `nil`, n: 1}, {s: `None`, n: 0}, {s: `x`, n: 0}, {s: `,`, n: 0}, {s: `]`, n: 0}, {s: `\`, n: 0}, {s: `'a'`, n: 0}, {s: "\x00", n: 0}, {s: "\xff", n: 0}, {s: "\u00e9", n: 0}, {s: "(", n: 0},
		{s: `-`, n: 1}, {s: `-0`, n: 1}, {s: `-01`, n: 1}, {s: `--1`, n: 1}, {s: `- 1`, n: 1}, {s: `-x`, n: 1}, {s: `+1`, n: 0}, {s: `.5`, n: 0}, {s: "-\xd9\xa1", n: 1}, {s: `:`, n: 0}, {s: `/`, n: 0}, {s: `-:`, n: 1}, {s: `-/`, n: 1},
		{s: `[`, n: 1}, {s: `[ `, n: 2}, {s: `[1`, n: 2}, {s: `[1 `, n: 3}, {s: `[1,`, n: 3}, {s: `[1, `, n: 4}, {s: `[1, 2`, n: 5}, {s: `[1,]`, n: 3}, {s: `[1, ]`, n: 4}, {s: `[,`, n: 1}, {s: `[,1]`, n: 1}, {s: `[1,,2]`, n: 3}, {s: `[1 2]`, n: 3}, {s: `[1;2]`, n: 2}, {s: "[\n1]", n: 1}, {s: "[1\n]", n: 2}, {s: "[1,\r2]", n: 3}, {s: `[x`, n: 1}, {s: `[[1]`, n: 4}, {s: `[[1]}`, n: 4}, {s: `[[1],`, n: 5}, {s: "[\x00]", n: 1}, {s: "[1\x00]", n: 2}, {s: "[1\u00a0]", n: 2}, {s: `[-]`, n: 2}, {s: `[""`, n: 3}, {s: `["]`, n: 3}, {s: `["",x`, n: 4}, {s: `[non]`, n: 4},
		{s: `"`, n: 1}, {s: `"a`, n: 2}, {s: `"\`, n: 2}, {s: `"\"`, n: 3}, {s: `"\\`, n: 3}, {s: `"\q"`, n: 2}, {s: `"\N"`, n: 2}, {s: `"\r"`, n: 2}, {s: `"\0"`, n: 2}, {s: `"\u0041"`, n: 2}, {s: `"\X41"`, n: 2}, {s: "\"\\\n\"", n: 2}, {s: "\"\\\x00\"", n: 2}, {s: "\"\\\xff\"", n: 2}, {s: `"\'"`, n: 2},
		{s: `"\x`, n: 3}, {s: `"\x"`, n: 3}, {s: `"\xg1"`, n: 3}, {s: `"\x1`, n: 4}, {s: `"\x1"`, n: 4}, {s: `"\x1g"`, n: 4}, {s: `"\x 1"`, n: 3}, {s: "\"\\x\x00", n: 3}, {s: "\"\\x1\x00", n: 4}, {s: `"\xG0"`, n: 3}, {s: `"\x0G"`, n: 4}, {s: "\"\\x0`\"", n: 4}, {s: `"\x@0"`, n: 3}, {s: `"\x:0"`, n: 3}, {s: `"\x/0"`, n: 3},
		{s: "\"\x00\"", n: 1}, {s: "\"ab\x1f\"", n: 3}, {s: "\"\t\"", n: 1}, {s: "\"\n\"", n: 1}, {s: "\"a\x7f\"", n: 2},
		{s: "\"\x80\"", n: 1}, {s: "\"\xbf\"", n: 1}, {s: "\"\xc0\xaf\"", n: 1}, {s: "\"\xc1\xbf\"", n: 1}, {s: "\"\xc3\"", n: 1}, {s: "\"\xc3", n: 1}, {s: "\"\xe2\x82", n: 1}, {s: "\"\xe2\x82\"", n: 1}, {s: "\"\xf0\x9f\x98", n: 1}, {s: "\"\xed\xa0\x80\"", n: 1}, {s: "\"\xe0\x80\xaf\"", n: 1}, {s: "\"\xf4\x90\x80\x80\"", n: 1}, {s: "\"\xf5\x80\x80\x80\"", n: 1}, {s: "\"\u20ac\x82\"", n: 4}, {s: "\"\ufffd\xff\"", n: 4}, {s: "\"\xff\ufffd\"", n: 1}, {s: "\"\\xc3\xa9\"", n: 5}, {s: "[1, \"a\xff\"]", n: 6},
	}
	for k := range rows {
		rows[k].e = api.ErrValSyntax
	}
	return rows
}

func TestSyntaxFaultsAndTheirPlaces(t *testing.T) {
	for _, c := range syntaxFaults() {
		checkLead(t, "P2.8", c)
		checkParse(t, "P2.9", c)
	}
}

func TestEveryByteInQuotes(t *testing.T) {
	for k := range 256 {
		s := `"a` + string([]byte{byte(k)}) + `b"`
		want := reading{s, none, 2, api.ErrValSyntax}
		switch {
		case k == '"':
			want = reading{s, text("a"), 3, api.OK}
		case k == '\\':
			want.n = 3
		case k >= 0x20 && k < 0x7f:
			want = reading{s, text(s[1:4]), 5, api.OK}
		}
		checkLead(t, "P2.8", want)
	}
}

func TestEveryByteBehindABackslash(t *testing.T) {
	means := map[byte]byte{'"': '"', '\\': '\\', 'n': 10, 't': 9}
	for k := range 256 {
		c := byte(k)
		s := `"\` + string([]byte{c}) + `"`
		want := reading{s, none, 2, api.ErrValSyntax}
		if b, ok := means[c]; ok {
			want = reading{s, text(string([]byte{b})), 4, api.OK}
		}
		if c == 'x' {
			want.n = 3
		}
		checkLead(t, "P2.8", want)
	}
}

func TestEveryPairOfHexDigits(t *testing.T) {
	for k := range 1 << 16 {
		pair := string([]byte{byte(k >> 8), byte(k)})
		s := `"\x` + pair + `"`
		var b byte
		want := reading{s, none, 3, api.ErrValSyntax}
		if strings.Contains("0123456789abcdefABCDEF", pair[:1]) {
			want.n = 4
		}
		if n, _ := fmt.Sscanf(pair, "%02x", &b); n == 1 && want.n == 4 && strings.Contains("0123456789abcdefABCDEF", pair[1:]) {
			want = reading{s, text(string([]byte{b})), 6, api.OK}
		}
		checkLead(t, "P2.8", want)
	}
}

func TestEveryRuneInQuotes(t *testing.T) {
	for r := rune(0x80); r <= utf8.MaxRune; r++ {
		if r >= 0xd800 && r <= 0xdfff {
			continue
		}
		s := `"` + string(r) + `"`
		if v, n, e := Lead(s); v.Kind != api.Text || v.Text != string(r) || n != len(s) || e != api.OK {
			t.Fatalf("P2.7: Lead of %U in quotes = %+v, %d, %d", r, v, n, e)
		}
	}
}

func TestIntsBeyondInt64(t *testing.T) {
	for _, c := range []reading{
		{s: `9223372036854775808`}, {s: `9223372036854775808x`}, {s: `-9223372036854775809`}, {s: `-9223372036854775809"`}, {s: `10000000000000000000`}, {s: `18446744073709551616`}, {s: `18446744073709551617`}, {s: `-18446744073709551615`}, {s: `1` + strings.Repeat("0", 100000)}, {s: `-` + strings.Repeat("9", 1000)},
		{s: `[9223372036854775808`, n: 1}, {s: `[ -9223372036854775809`, n: 2}, {s: `[0, 9223372036854775808x]`, n: 4}, {s: `[[1, -99999999999999999999 99`, n: 5},
	} {
		c.e = api.ErrValInt
		checkLead(t, "P2.8", c)
		checkParse(t, "P2.9", c)
	}
}

func TestTextsAboveMaxText(t *testing.T) {
	for _, c := range []reading{
		{`"` + long(25) + `"`, none, 0, api.ErrValText},
		{`"` + long(25) + `"x`, none, 0, api.ErrValText},
		{`["` + long(25) + `"`, none, 1, api.ErrValText},
		{`[1, "` + strings.Repeat("\u00e9", 13) + `"]`, none, 4, api.ErrValText},
		{`"` + strings.Repeat(`\x61`, 25) + `"`, none, 0, api.ErrValText},
		{`"` + strings.Repeat(`\n`, 25) + `"`, none, 0, api.ErrValText},
		{`"` + long(23) + "\u00e9" + `"`, none, 0, api.ErrValText},
		{`"` + long(21) + "\u20ac" + `"`, text(long(21) + "\u20ac"), 26, api.OK},
		{`"` + long(100000) + `"`, none, 0, api.ErrValText},
		{`"` + long(25), none, 26, api.ErrValSyntax},
		{`"` + long(25) + `\q"`, none, 27, api.ErrValSyntax},
		{`"` + long(25) + "\xff\"", none, 26, api.ErrValSyntax},
		{`"` + long(25) + "\x1f\"", none, 26, api.ErrValSyntax},
		{`["` + long(25) + `\x4`, none, 30, api.ErrValSyntax},
	} {
		checkLead(t, "P2.8", c)
		checkParse(t, "P2.9", c)
	}
}

func TestTheThirteenthPart(t *testing.T) {
	eleven := `[[0,0,0,0],[0,0,0,0]`
	twelve := `[[0,0,0,0],[0,0,0,0],0`
	for _, c := range []reading{
		{twelve + `]`, list(list(times(4, num(0))...), list(times(4, num(0))...), num(0)), 23, api.OK},
		{eleven + `,[]]`, list(list(times(4, num(0))...), list(times(4, num(0))...), list()), 24, api.OK},
		{twelve + `,0]`, none, 23, api.ErrValItems}, {twelve + ` , 0`, none, 25, api.ErrValItems}, {eleven + `,[0`, none, 22, api.ErrValItems}, {eleven + `,[ 0]`, none, 23, api.ErrValItems},
		{twelve + `,n`, none, 23, api.ErrValItems}, {twelve + `,nx`, none, 23, api.ErrValItems}, {twelve + `,-`, none, 23, api.ErrValItems}, {twelve + `,-0`, none, 23, api.ErrValItems}, {twelve + `,9`, none, 23, api.ErrValItems}, {twelve + `,99999999999999999999`, none, 23, api.ErrValItems}, {twelve + `,"`, none, 23, api.ErrValItems}, {twelve + ",\"\xff", none, 23, api.ErrValItems}, {twelve + `,[`, none, 23, api.ErrValItems}, {twelve + `,"` + long(25) + `"`, none, 23, api.ErrValItems},
		{twelve + `,x`, none, 23, api.ErrValSyntax}, {twelve + `,]`, none, 23, api.ErrValSyntax}, {twelve + `,`, none, 23, api.ErrValSyntax}, {twelve + `, `, none, 24, api.ErrValSyntax}, {twelve + `x`, none, 22, api.ErrValSyntax}, {eleven + `,[x`, none, 22, api.ErrValSyntax}, {eleven + `,x`, none, 21, api.ErrValSyntax},
		{`[[0,0,0,0],[0,0,0,[[[`, none, 19, api.ErrValDepth}, {`[[0,0,0,0],[0,0,0,0],[[[`, none, 22, api.ErrValItems},
		{`[[0,0,0,0],[0,0,0,[0,[`, none, 21, api.ErrValItems}, {`[[0,0,0,0],[0,0,0,[[`, none, 19, api.ErrValDepth}, {`[[0,0,0,0],[0,0,[0,[`, none, 19, api.ErrValDepth},
	} {
		checkLead(t, "P2.8", c)
		checkParse(t, "P2.9", c)
	}
}

func TestListsTooDeep(t *testing.T) {
	for _, c := range []reading{
		{`[[[[x`, none, 3, api.ErrValDepth}, {`[[[[`, none, 3, api.ErrValDepth}, {`[[[[]]]]`, none, 3, api.ErrValDepth}, {"[ [\t[ [", none, 6, api.ErrValDepth}, {`[[[1,[`, none, 5, api.ErrValDepth}, {`[[],[[],[[`, none, 9, api.ErrValDepth},
		{`[[[x`, none, 3, api.ErrValSyntax}, {`[[[]]]`, nested(2), 6, api.OK}, {`[[[],[]]]`, list(list(list(), list())), 9, api.OK},
		{strings.Repeat("[", 100000), none, 3, api.ErrValDepth},
	} {
		checkLead(t, "P2.8", c)
		checkParse(t, "P2.9", c)
	}
}

func TestListsOfTooManyItems(t *testing.T) {
	for _, c := range []reading{
		{`[0,1,2,3,4,5,`, none, 12, api.ErrValItems}, {`[0,1,2,3,4,5,x`, none, 12, api.ErrValItems}, {`[0,1,2,3,4,5 ,6]`, none, 13, api.ErrValItems}, {`[0,1,2,3,4,5,]`, none, 12, api.ErrValItems}, {`[[],[],[],[],[],[],[`, none, 18, api.ErrValItems}, {`[1,[0,1,2,3,4,5,9223372036854775808`, none, 15, api.ErrValItems},
		{`[0,1,2,3,4,5`, none, 12, api.ErrValSyntax}, {`[0,1,2,3,4,5x`, none, 12, api.ErrValSyntax}, {`[0,1,2,3,4,,`, none, 11, api.ErrValSyntax},
		{`[[0,0,0],[0,0,0,0,0,0,`, none, 21, api.ErrValItems},
	} {
		checkLead(t, "P2.8", c)
		checkParse(t, "P2.9", c)
	}
}

func TestParsePassesOverBlanks(t *testing.T) {
	for _, c := range wholes() {
		checkParse(t, "P2.9", c)
		for _, around := range [][2]string{{" ", ""}, {"", " "}, {"\t", "\t"}, {" \t\t ", " \t "}} {
			s := around[0] + c.s + around[1]
			checkParse(t, "P2.9", reading{s, c.v, len(s), api.OK})
		}
	}
}

func TestParseCountsPlacesInTheWhole(t *testing.T) {
	for _, c := range []reading{
		{" ", none, 1, api.ErrValSyntax}, {" \t ", none, 3, api.ErrValSyntax}, {" nonx", none, 4, api.ErrValSyntax}, {"\t[1, 2", none, 6, api.ErrValSyntax}, {"  -0", none, 3, api.ErrValSyntax}, {"\t\t\"\xe2\x82", none, 3, api.ErrValSyntax},
		{" 9223372036854775808x", none, 1, api.ErrValInt}, {"   \"" + long(25) + "\"x", none, 3, api.ErrValText}, {" [[[[x", none, 4, api.ErrValDepth}, {"\t[0,1,2,3,4,5,", none, 13, api.ErrValItems}, {" [[0,0,0,0],[0,0,0,0],0,0", none, 24, api.ErrValItems},
	} {
		checkParse(t, "P2.9", c)
	}
}

func TestParseTakesNothingBehind(t *testing.T) {
	for _, c := range wholes() {
		for _, behind := range []string{"x", ",", "]", "\n", "\"", "\xff", "\x00", "\u00a0", " 0", "\t none", " \t \r"} {
			s := c.s + behind
			at := len(c.s) + len(behind) - len(strings.TrimLeft(behind, " \t"))
			checkParse(t, "P2.9", reading{s, none, at, api.ErrValSyntax})
			s = " " + s
			checkParse(t, "P2.9", reading{s, none, at + 1, api.ErrValSyntax})
		}
	}
	for _, c := range []reading{{"01", none, 1, api.ErrValSyntax}, {"1 2", none, 2, api.ErrValSyntax}, {"nonesuch", none, 4, api.ErrValSyntax}, {"12ab", none, 2, api.ErrValSyntax}, {" [ 1 ,\"\\x41\" ] ", list(num(1), text("A")), 15, api.OK}} {
		checkParse(t, "P2.9", c)
	}
}

// endings are texts that may end what was begun: a word, a number, a text, lists.
func endings() []string {
	var all []string
	for _, inside := range []string{"", "n", "ne", "one", "none", "1", "e", `"`, `n"`, `1"`, `11"`} {
		for depth := range 4 {
			all = append(all, inside+strings.Repeat("]", depth))
		}
	}
	return all
}

func canEnd(s string, ends []string) bool {
	for _, end := range ends {
		if _, _, e := Lead(s + end); e == api.OK {
			return true
		}
	}
	return false
}

// Of every short text: where a fault of syntax is told, what stands ahead of it can go on to a value, and with the byte at it nothing can.
func TestFirstByteThatCannotStand(t *testing.T) {
	const letters = "ne-01\"\\x[], \x00"
	ends := endings()
	var walk func(s string)
	walk = func(s string) {
		v, n, e := Lead(s)
		if e == api.OK {
			if Check(v) != api.OK || n > len(s) {
				t.Fatalf("P2.12: Lead(%q) = %+v, %d", s, v, n)
			}
			return
		}
		if e == api.ErrValSyntax {
			if _, at, again := Lead(s[:n]); at != n || again != api.ErrValSyntax {
				t.Fatalf("P2.8: Lead(%q): place %d; of what stands ahead of it: place %d, error %d", s, n, at, again)
			}
			if !canEnd(s[:n], ends) {
				t.Fatalf("P2.8: Lead(%q): place %d, but what stands ahead of it is no beginning of a value", s, n)
			}
			if n < len(s) && canEnd(s[:n+1], ends) {
				t.Fatalf("P2.8: Lead(%q): place %d, but that byte can stand there", s, n)
			}
		}
		if n == len(s) && len(s) < 5 {
			for k := range len(letters) {
				walk(s + letters[k:k+1])
			}
		}
	}
	walk("")
}

// What stands behind a fault's place, and behind what tells it, is not looked at.
func TestFaultsHangOnWhatStandsAheadAlone(t *testing.T) {
	for _, c := range syntaxFaults() {
		if c.n == len(c.s) || c.s[c.n] >= 0x80 {
			continue
		}
		for _, behind := range []string{"", "]", "\"", "x", "\xff", "99999999999999999999", "[[[[", `"\q`} {
			c.s = c.s[:c.n+1] + behind
			checkLead(t, "P2.8", c)
		}
	}
}
