package expr_test

import (
	"strings"
	"testing"

	"eddy/api"
	"eddy/expr"
)

func TestTheWholeTextIsOneExpr(t *testing.T) {
	for _, s := range []string{
		"if 1 then 2 else 3", "if if 1 then 2 else 3 then if 4 then 5 else 6 else if 7 then 8 else 9", "1 or 2 and not 3 == 4 + 5 * - 6", "not not not 1", "- - - 1", "1 - - - 2",
		"1 == 2 and 3 != 4 or 5 < 6", "not 1 == 2", "1 and not 2", "1 or not 2", "not - 1", "(1 == 2) == 3", "1 == (2 == 3)", "1 + (if 1 then 2 else 3)", "- (not 1)", "1 == (not 2)", "(if 1 then 2 else 3) + 1",
		"[]", "[1]", "[1, 2, 3, 4, 5, 6]", "[if 1 then 2 else 3, not 1, 1 or 2]", "[[], [[]], [1]]", "((1))", "len(if 1 then 2 else 3)", "len((1))", "put(1 or 2, not 3, [])", "at(at(1, 2), -1)",
		"key", "val", "acc", "hops", "none", `"a"`, "0", "if (1) then (2) else (3)", "if 1 then 2 else 3 or 4", "if 1 or 2 then 3 and 4 else 5 + 6",
	} {
		wantNoFault(t, "P3.2", s)
	}
}

func TestTokensThatCannotStandThere(t *testing.T) {
	for _, c := range []struct {
		s  string
		at int
	}{
		{"1 + if 1 then 2 else 3", 4}, {"- not 1", 2}, {"1 == not 2", 5}, {"1 + not 2", 4}, {"1 * not 2", 4}, {"1 * if 1 then 2 else 3", 4}, {"1 == if 1 then 2 else 3", 5}, {"1 or if 1 then 2 else 3", 5}, {"1 and if 1 then 2 else 3", 6}, {"not if 1 then 2 else 3", 4}, {"- if 1 then 2 else 3", 2},
		{"1 < 2 < 3", 6}, {"1 == 2 == 3", 7}, {"1 == 2 != 3", 7}, {"1 + 2 < 3 + 4 >= 5", 14}, {"(1 < 2 < 3)", 7}, {"not 1 < 2 < 3", 10}, {"1 and 2 < 3 < 4", 12},
		{"1 +", 3}, {"1 + ", 4}, {"+", 0}, {"* 1", 0}, {"1 * / 2", 4}, {"1 + + 2", 4}, {"1 - * 2", 4}, {"1 and or 2", 6}, {"or", 0}, {"and 1", 0}, {"1 or", 4}, {"not", 3}, {"-", 1}, {"1 not 2", 2}, {"1 not", 2},
		{"1 2", 2}, {"key val", 4}, {"1 key", 2}, {"none none", 5}, {`1 "a"`, 2}, {"1 (2)", 2}, {"1 [2]", 2}, {"key(1)", 3}, {"(1)(2)", 3}, {"[1](2)", 3}, {"[1][2]", 3}, {"1 len(2)", 2}, {"len(1) 2", 7}, {"len(1)(2)", 6},
		{"if", 2}, {"if 1", 4}, {"if then", 3}, {"if 1 then", 9}, {"if 1 then else 2", 10}, {"if 1 then 2", 11}, {"if 1 then 2 else", 16}, {"if 1 else 2", 5}, {"if 1 then 2 then 3", 12}, {"if 1 then 2 else 3 else 4", 19}, {"if 1 then 2 else 3 then 4", 19}, {"then", 0}, {"else", 0}, {"1 then 2", 2}, {"1 else 2", 2}, {"1 if 2", 2}, {"if 1, then", 4}, {"(if 1 then 2) else 3", 12}, {"if (1 then 2", 6}, {"if [1 then 2", 6},
		{"(", 1}, {")", 0}, {"()", 1}, {"(1", 2}, {"1)", 1}, {"(1]", 2}, {"(1))", 3}, {"(1,", 2}, {"(1 2", 3}, {"((1)", 4}, {"(+", 1}, {"(]", 1},
		{"[", 1}, {"]", 0}, {"[1", 2}, {"[1)", 2}, {"[1]]", 3}, {"[,", 1}, {"[,1]", 1}, {"[1,]", 3}, {"[1,,2]", 3}, {"[1 2]", 3}, {"[1,", 3}, {"[)", 1}, {"[[]", 3}, {"[(])", 2}, {"[-]", 2}, {"[not]", 4},
		{",", 0}, {"1,", 1}, {"1,2", 1},
		{"len", 3}, {"len 1", 4}, {"len[1]", 3}, {"len)", 3}, {"len()", 4}, {"len(", 4}, {"len(1", 5}, {"len(1]", 5}, {"len(,", 4}, {"len(1,", 5}, {"len(1,2)", 5}, {"len len(1)", 4}, {"len + 1", 4}, {"len,", 3},
		{"at()", 3}, {"at(1)", 4}, {"at(1", 4}, {"at(1,", 5}, {"at(1,)", 5}, {"at(1,2,", 6}, {"at(1,2,3)", 6}, {"at(1 2)", 5}, {"at(1]", 4}, {"at(1,2]", 6},
		{"put(1)", 5}, {"put(1,2)", 7}, {"put(1,2,3,4)", 9}, {"put(1,2,3,", 9}, {"put(1,2,3]", 9}, {"put(1,2]", 7},
		{"", 0}, {" ", 1}, {"     ", 5},
	} {
		wantFault(t, "P3.3", c.s, c.at, api.ErrExprToken)
	}
}

func TestCallsTakeTheirNumberOfExprs(t *testing.T) {
	for name, sides := range sidesOf {
		for n := range 6 {
			s := name + "(" + strings.TrimSuffix(strings.Repeat("1,", n), ",") + ")"
			switch {
			case n == sides:
				wantNoFault(t, "P3.2", s)
			case n < sides:
				wantFault(t, "P3.3", s, len(s)-1, api.ErrExprToken)
			default:
				wantFault(t, "P3.3", s, len(name)+2*sides, api.ErrExprToken)
			}
		}
	}
}

func TestListsOfSixAndOfSeven(t *testing.T) {
	wantNoFault(t, "P3.2", "[1,2,3,4,5,6]")
	wantFault(t, "P3.3", "[1,2,3,4,5,6,7]", 12, api.ErrExprToken)
	wantFault(t, "P3.3", "[1,2,3,4,5,6,", 12, api.ErrExprToken)
	wantFault(t, "P3.3", "[1,2,3,4,5,6,]", 12, api.ErrExprToken)
	wantFault(t, "P3.3", "[1,2,3,4,5,6, foo", 12, api.ErrExprToken)
	wantNoFault(t, "P3.2", "[[1,2,3,4,5,6],[1,2,3,4,5,6],3,4,5,[1,2,3,4,5,6]]")
	wantFault(t, "P3.3", "[1,[1,2,3,4,5,6,7]]", 15, api.ErrExprToken)
	// Items that are lists or calls have commas of their own.
	wantNoFault(t, "P3.2", "[at(1,2),at(1,2),at(1,2),at(1,2),at(1,2),at(1,2)]")
}

func TestLongTexts(t *testing.T) {
	wantNoFault(t, "P3.3", strings.Repeat("1+", 49)+"1 ")
	wantNoFault(t, "P3.3", strings.Repeat("-", 99)+"1")
	wantNoFault(t, "P3.3", strings.Repeat(" ", 99)+"1")
	wantNoFault(t, "P3.3", "1"+strings.Repeat(" ", 99))
	wantFault(t, "P3.3", strings.Repeat("1+", 50), 100, api.ErrExprToken)
	wantFault(t, "P3.3", strings.Repeat(" ", 100), 100, api.ErrExprToken)
	wantFault(t, "P3.3", strings.Repeat("1+", 50)+"1", 0, api.ErrExprLong)
	wantFault(t, "P3.3", strings.Repeat("-", 100)+"1", 0, api.ErrExprLong)
	wantFault(t, "P3.3", strings.Repeat(" ", 101), 0, api.ErrExprLong)
	wantFault(t, "P3.3", strings.Repeat("\xff", 101), 0, api.ErrExprLong)
	wantFault(t, "P3.3", strings.Repeat("(", 101), 0, api.ErrExprLong)
	wantFault(t, "P3.3", strings.Repeat("9", 1<<20), 0, api.ErrExprLong)
	wantFault(t, "P3.3", strings.Repeat("\xff", 100), 0, api.ErrExprByte)
}

func TestBracketsThatAreOpen(t *testing.T) {
	for _, open := range []string{"(", "[", "len(", "(["} {
		size := strings.Count(open, "(") + strings.Count(open, "[")
		closing := strings.NewReplacer("len(", ")", "([", "])", "(", ")", "[", "]").Replace(open)
		ten := strings.Repeat(open, 10/size)
		wantNoFault(t, "P3.3", ten+"1"+strings.Repeat(closing, 10/size))
		for _, more := range []string{"(", "[", "(1", "( foo", "[\t", "(" + "9223372036854775808"} {
			wantFault(t, "P3.3", ten+more, len(ten), api.ErrExprDeep)
		}
		wantFault(t, "P3.3", ten+"len(", len(ten)+3, api.ErrExprDeep)
		wantFault(t, "P3.3", ten+"len", len(ten)+3, api.ErrExprToken)
		wantFault(t, "P3.3", ten+"len[", len(ten)+3, api.ErrExprToken)
		wantFault(t, "P3.3", ten+"1(", len(ten)+1, api.ErrExprToken)
		wantFault(t, "P3.3", ten+"1[", len(ten)+1, api.ErrExprToken)
		wantFault(t, "P3.3", ten, len(ten), api.ErrExprToken)
	}
	wantFault(t, "P3.3", strings.Repeat("(", 11), 10, api.ErrExprDeep)
	wantFault(t, "P3.3", strings.Repeat("(", 10)+"1 (", 12, api.ErrExprToken)
	wantFault(t, "P3.3", strings.Repeat("(", 10)+" + foo (", 11, api.ErrExprToken)
	wantFault(t, "P3.3", strings.Repeat("(", 10)+"foo (", 10, api.ErrExprName)
	// Brackets that are closed are not open.
	wantNoFault(t, "P3.3", strings.Repeat("(", 10)+"1)+(2)"+strings.Repeat(")", 9))
	wantNoFault(t, "P3.3", "[]+[]+[]+[]+[]+[]+[]+[]+[]+[]+[]+[]+(1)+(2)+len(3)")
	wantFault(t, "P3.3", strings.Repeat("(", 9)+"(1)+((2", 14, api.ErrExprDeep)
	wantFault(t, "P3.3", strings.Repeat("(", 9)+"[]+[[", 13, api.ErrExprDeep)
	wantFault(t, "P3.3", strings.Repeat("(", 9)+"len(1)+(len(2", 20, api.ErrExprDeep)
}

func TestTheFirstFaultIsTold(t *testing.T) {
	wantFault(t, "P3.3", ") foo", 0, api.ErrExprToken)
	wantFault(t, "P3.3", "foo )", 0, api.ErrExprName)
	wantFault(t, "P3.3", "1 foo", 2, api.ErrExprName)
	wantFault(t, "P3.3", "1 \"", 2, api.ErrExprText)
	wantFault(t, "P3.3", "1 9223372036854775808", 2, api.ErrExprNumber)
	wantFault(t, "P3.3", "1 ?", 2, api.ErrExprByte)
	wantFault(t, "P3.3", "1 2 foo ? \"", 2, api.ErrExprToken)
	wantFault(t, "P3.3", "? 1 2", 0, api.ErrExprByte)
	wantFault(t, "P3.3", "(1 + foo) ?", 5, api.ErrExprName)
	wantFault(t, "P3.3", "(1 + ) foo", 5, api.ErrExprToken)
	wantFault(t, "P3.3", "len foo", 4, api.ErrExprName)
	wantFault(t, "P3.3", "len 1 foo", 4, api.ErrExprToken)
	wantFault(t, "P3.3", "1 + 2 foo", 6, api.ErrExprName)
	wantFault(t, "P3.3", "if 1 foo 2", 5, api.ErrExprName)
	wantFault(t, "P3.3", "[1 foo", 3, api.ErrExprName)
	wantFault(t, "P3.3", "foo"+strings.Repeat("(", 20), 0, api.ErrExprName)
}

// wantModel tells where the program's fault of s isn't the one of the tests' own reading.
func wantModel(t *testing.T, s string) {
	t.Helper()
	at, e := firstFault(s)
	err := expr.Check(s)
	if e == api.OK {
		if err != nil {
			t.Errorf("P3.3: Check(%q) answers %v, want nil", s, err)
		}
		return
	}
	if gotAt, got := placeOf(err); gotAt != at || got != e {
		t.Errorf("P3.3: Check(%q) answers %v, want error %d at %d", s, err, int(e), at)
	}
}

func TestAllRowsOfFourTokens(t *testing.T) {
	tokens := []string{"", "1", "key", `"a"`, "len", "at", "put", "if", "then", "else", "or", "and", "not", "-", "+", "*", "<", "==", "(", ")", "[", "]", ",", "foo", "?", "\"", "9223372036854775808"}
	for _, a := range tokens {
		for _, b := range tokens {
			for _, c := range tokens {
				for _, d := range tokens {
					wantModel(t, a+" "+b+" "+c+" "+d)
				}
			}
		}
	}
}

func TestRowsOfTokensThatGoOnLong(t *testing.T) {
	c := chanceFrom(1)
	tokens := strings.Fields(`1 2 key val acc hops none "a" len at put has if if then else or and not - + * / % < <= == != ( ( ( ) ) ) [ [ ] ] , , ,`)
	for range 15000 {
		s := ""
		for len(s) < 105 {
			next := s + c.one("", " ") + c.one(tokens...)
			at, e := firstFault(next)
			// What may still become an expression goes on; now and then what may not is looked at too.
			if e == api.OK || e == api.ErrExprToken && at == len(next) {
				s = next
			} else if c.Intn(12) == 0 {
				s = next
				break
			}
		}
		wantModel(t, s)
		wantModel(t, s[:c.Intn(len(s)+1)])
	}
}

func TestBytesByChance(t *testing.T) {
	c := chanceFrom(2)
	const bytes = "  01aelnkyvif()[],+-*<>=!\"\\xnt\t\xff?_A"
	for range 100000 {
		var b []byte
		for range c.Intn(12) {
			b = append(b, bytes[c.Intn(len(bytes))])
		}
		wantModel(t, string(b))
	}
}
