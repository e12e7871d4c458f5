package expr_test

import (
	"math"
	"math/big"
	"strings"
	"testing"

	"eddy/api"
	"eddy/expr"
	"eddy/value"
)

func TestExamplesOfTheChapter(t *testing.T) {
	six := list(num(1), num(2), num(3), num(4), num(5), num(6))
	for _, c := range []struct {
		s        string
		key      string
		val, acc api.Value
		want     api.Value
		example  string
	}{
		{"val * 2 + 1", "", num(20), none, num(41), "1"}, {`key + "!"`, "ab", none, none, text("ab!"), "1"}, {`if val % 2 == 0 then "even" else "odd"`, "", num(-3), none, text("odd"), "2"},
		{"acc + [val]", "", num(7), list(num(1)), list(num(1), num(7)), "3"}, {"acc + [val]", "", num(7), six, none, "3"}, {"acc + [val]", "", num(7), none, none, "3"},
		{`sort([3, "a", none, 1])`, "", none, none, list(none, num(1), num(3), text("a")), "7"},
		{"put([1, 2], 2, 3)", "", none, none, list(num(1), num(2), num(3)), "8"}, {"put([1, 2], -1, 9)", "", none, none, list(num(1), num(9)), "8"}, {"put([], -1, 9)", "", none, none, none, "8"}, {`at("abc", -3)`, "", none, none, text("a"), "8"},
	} {
		wantValue(t, "example "+c.example, c.s, api.Record{Key: c.key, Val: c.val}, c.acc, c.want)
	}
}

func TestWhatIsGiven(t *testing.T) {
	for _, v := range someValues() {
		wantValue(t, "P3.7", "val", api.Record{Val: v}, num(77), v)
		wantValue(t, "P3.7", "acc", api.Record{Val: num(77)}, v, v)
	}
	for _, v := range faultyValues() {
		wantValue(t, "P3.7", "val", api.Record{Val: v}, num(77), none)
		wantValue(t, "P3.7", "acc", api.Record{Val: num(77)}, v, none)
		// Only what isn't valid is taken as none.
		wantValue(t, "P3.7", "[val, acc]", api.Record{Val: v}, num(77), list(none, num(77)))
		wantValue(t, "P3.7", "[val, acc]", api.Record{Val: num(77)}, v, list(num(77), none))
		wantValue(t, "P3.7", "[key, hops]", api.Record{Key: "k", Val: v, Loops: []int{4}}, v, list(text("k"), num(4)))
	}
	for _, key := range []string{"", "a", "key", "\xff\x00", long(11), long(12)} {
		wantValue(t, "P3.7", "key", api.Record{Key: key}, none, text(key))
	}
	wantValue(t, "P3.7", "key", api.Record{Key: long(13)}, none, none)
	wantValue(t, "P3.7", "[key, val]", api.Record{Key: long(1 << 20), Val: num(1)}, none, list(none, num(1)))
}

func TestHops(t *testing.T) {
	for _, c := range []struct {
		loops []int
		want  api.Value
	}{
		{nil, none}, {[]int{}, none}, {[]int{4}, num(4)}, {[]int{4, 2}, num(2)}, {[]int{1, 2, 0}, num(0)}, {[]int{1, 2, 3, 4}, none}, {make([]int, 1000), none},
		{[]int{9}, num(9)}, {[]int{10}, num(10)}, {[]int{-1}, num(-1)}, {[]int{-5, 3}, num(3)}, {[]int{math.MaxInt64}, num(math.MaxInt64)}, {[]int{1, math.MinInt64}, num(math.MinInt64)},
	} {
		wantValue(t, "P3.7", "hops", api.Record{Loops: c.loops}, none, c.want)
	}
	// A counter that a valid record can't have takes nothing from the rest.
	wantValue(t, "P3.7", "[key, val]", api.Record{Key: "k", Val: num(1), Loops: make([]int, 9)}, none, list(text("k"), num(1)))
}

func TestConstants(t *testing.T) {
	wantValue(t, "P3.7", "none", api.Record{Val: num(1)}, num(1), none)
	wantValue(t, "P3.7", "12", api.Record{}, none, num(12))
	wantValue(t, "P3.7", `"none"`, api.Record{}, none, text("none"))
	wantValue(t, "P3.7", `"\x00\xff"`, api.Record{}, none, text("\x00\xff"))
}

func TestTrue(t *testing.T) {
	for want, all := range map[bool][]api.Value{
		true:  {num(1), num(-1), num(math.MinInt64), text("0"), text(" "), text("\x00"), list(none), list(num(0)), list(list())},
		false: append(faultyValues(), none, num(0), text(""), list(), api.Value{}, api.Value{Kind: api.List, Items: []api.Value{}}, api.Value{Kind: 9, Int: 1}),
	} {
		for _, v := range all {
			if expr.True(v) != want {
				t.Errorf("P3.8: True(%+v) answers %v", v, !want)
			}
		}
	}
	for _, v := range append(someValues(), faultyValues()...) {
		r := api.Record{Val: v}
		if expr.True(v) != isTrue(v) {
			t.Errorf("P3.8: True(%+v) answers %v", v, !isTrue(v))
		}
		wantValue(t, "P3.9", "if val then 1 else 2", r, none, map[bool]api.Value{true: num(1), false: num(2)}[isTrue(v)])
		wantValue(t, "P3.9", "not val", r, none, bit(!isTrue(v)))
		wantValue(t, "P3.9", "not not val", r, none, bit(isTrue(v)))
		for _, w := range someValues() {
			wantValue(t, "P3.9", "val or acc", r, w, bit(isTrue(v) || isTrue(w)))
			wantValue(t, "P3.9", "val and acc", r, w, bit(isTrue(v) && isTrue(w)))
		}
	}
}

func TestChoices(t *testing.T) {
	for s, want := range map[string]api.Value{
		"if 1 then none else 2": none, "if 0 then 1 else []": list(), `if "" then 1 else "x"`: text("x"), "if none then 1 else 2": num(2), "if [0] then [1] else [2]": list(num(1)),
		"if 1 then 2 else 3 + 4": num(2), "if 0 then 2 else 3 + 4": num(7), "(if 1 then 2 else 3) + 4": num(6), "if 0 then 1 else if 0 then 2 else 3": num(3), "if if 0 then 0 else 1 then 2 else 3": num(2),
		"1 or 2 and 0": num(1), "(1 or 2) and 0": num(0), "not 1 == 2": num(1), "(not 1) == 2": num(0), "not 0 and 0": num(0), "not (0 and 0)": num(1), "not 0 or 1": num(1), "not (0 or 1)": num(0),
	} {
		wantValue(t, "P3.9", s, api.Record{}, none, want)
	}
}

func TestComparisons(t *testing.T) {
	for s, want := range map[string]int64{
		"none < 0": 1, "none == none": 1, "0 < \"\"": 1, "9 < \"\"": 1, "\"b\" < []": 1, "[1] < [1, none]": 1, "[2] < [1, 1]": 0, "\"a\" < \"b\"": 1, "\"b\" < \"ab\"": 0, "\"\\xff\" > \"z\"": 1, "1 == 1": 1, "1 == \"1\"": 0, "1 != \"1\"": 1, "[] == []": 1, "-1 < 0": 1, "1 + 1 == 2": 1, "[1, [2]] == [1, [2]]": 1,
	} {
		wantValue(t, "P3.9", s, api.Record{}, none, num(want))
	}
	for _, a := range append(someValues(), faultyValues()...) {
		for _, b := range append(someValues(), faultyValues()[:2]...) {
			order := value.Compare(a, b)
			for sign, want := range map[string]bool{"==": order == 0, "!=": order != 0, "<": order < 0, "<=": order <= 0, ">": order > 0, ">=": order >= 0} {
				wantValue(t, "P3.9", "val "+sign+" acc", api.Record{Val: a}, b, bit(want))
			}
		}
	}
}

func TestSidesAreTakenTogetherFromTheLeft(t *testing.T) {
	for s, want := range map[string]int64{
		"9 - 3 - 2": 4, "9 - (3 - 2)": 8, "100 / 7 / 2": 7, "100 / (7 / 2)": 33, "100 % 7 % 2": 0, "7 - 2 + 3": 8, "2 * 7 / 3": 4, "2 * (7 / 3)": 4, "7 / 3 * 2": 4, "7 % 3 * 2": 2, "7 % (3 * 2)": 1,
		"2 + 3 * 4": 14, "(2 + 3) * 4": 20, "2 * 3 + 4": 10, "- 2 + 3": 1, "-(2 + 3)": -5, "- 2 * 3": -6, "2 - - 3": 5, "- - 2": 2, "---2": -2, "-7 / 2": -4, "-(7 / 2)": -3, "-7 % 2": 1, "-(7 % 2)": -1, "(1 < 2) == 1": 1, "1 + 2 < 4 - 0": 1,
		"1 or 2 or 3": 1, "0 or 0 or 3": 1, "0 and 0 or 1": 1, "0 and (0 or 1)": 0,
	} {
		wantValue(t, "P3.2", s, api.Record{}, none, num(want))
	}
}

func TestInts(t *testing.T) {
	for _, a := range edgeInts() {
		wantValue(t, "P3.10", "-val", api.Record{Val: num(a)}, none, bounded(new(big.Int).Neg(big.NewInt(a))))
		for _, b := range edgeInts() {
			for _, sign := range []string{"+", "-", "*", "/", "%"} {
				wantValue(t, "P3.10", "val "+sign+" acc", api.Record{Val: num(a)}, num(b), signWorth(sign, []api.Value{num(a), num(b)}))
			}
		}
	}
}

func TestIntsAtTheEdges(t *testing.T) {
	low, high := num(math.MinInt64), num(math.MaxInt64)
	for _, c := range []struct {
		s    string
		val  api.Value
		want api.Value
	}{
		{"val + 1", high, none}, {"val + 0", high, high}, {"val + -1", low, none}, {"val + 1", low, num(math.MinInt64 + 1)}, {"val + val", low, none}, {"val - 1", low, none}, {"val - -1", high, none}, {"0 - val", low, none}, {"-1 - val", low, high}, {"val - val", low, num(0)},
		{"-val", low, none}, {"-val", high, num(-math.MaxInt64)}, {"--val", low, none}, {"val * -1", low, none}, {"-1 * val", low, none}, {"val * 1", low, low}, {"val * 0", low, num(0)}, {"0 * val", low, num(0)}, {"val * 2", num(1 << 62), none}, {"val * -2", num(1 << 62), low}, {"val * val", num(3037000499), num(9223372030926249001)}, {"val * val", num(3037000500), none}, {"val * val", low, none},
		{"val / -1", low, none}, {"val % -1", low, num(0)}, {"val / 1", low, low}, {"val / 2", low, num(math.MinInt64 / 2)}, {"val / val", low, num(1)}, {"val / -1", high, num(-math.MaxInt64)}, {"1 / val", low, num(-1)}, {"1 % val", low, num(math.MinInt64 + 1)}, {"-1 / val", low, num(0)}, {"-1 % val", low, num(-1)}, {"val % 10", low, num(2)}, {"val / 10", low, num(-922337203685477581)},
		{"val / 0", num(1), none}, {"val % 0", num(1), none}, {"val / 0", num(0), none}, {"val % 0", num(0), none}, {"val / 0", low, none}, {"0 / val", num(5), num(0)}, {"0 % val", num(-5), num(0)},
		{"val / 2", num(-7), num(-4)}, {"val / -2", num(7), num(-4)}, {"val / -2", num(-7), num(3)}, {"val / 2", num(7), num(3)}, {"val % 2", num(-7), num(1)}, {"val % -2", num(7), num(-1)}, {"val % -2", num(-7), num(-1)}, {"val % 2", num(7), num(1)}, {"val / 2", num(-8), num(-4)}, {"val % 2", num(-8), num(0)}, {"val / -2", num(8), num(-4)}, {"val % -2", num(8), num(0)},
	} {
		wantValue(t, "P3.10", c.s, api.Record{Val: c.val}, none, c.want)
	}
}

func TestSignsOverAllKinds(t *testing.T) {
	for _, a := range append(someValues(), faultyValues()...) {
		wantValue(t, "P3.10", "-val", api.Record{Val: a}, none, signWorth("neg", []api.Value{valid(a)}))
		for _, b := range append(someValues(), faultyValues()...) {
			for _, sign := range []string{"+", "-", "*", "/", "%"} {
				wantValue(t, "P3.10", "val "+sign+" acc", api.Record{Val: a}, b, signWorth(sign, []api.Value{valid(a), valid(b)}))
			}
		}
	}
	for s, want := range map[string]api.Value{
		`"a" + "b"`: text("ab"), `"a" + ""`: text("a"), `"" + ""`: text(""), "[1] + [2, 3]": list(num(1), num(2), num(3)), "[] + []": list(), "[] + [none]": list(none), `"a" + 1`: none, `1 + "a"`: none, `[1] + 1`: none, `1 + [1]`: none, `"a" + ["b"]`: none, "none + none": none, `"ab" - "b"`: none, `"a" * 2`: none, "[1] - [1]": none, `-"1"`: none, "-none": none, "-[1]": none, `"4" / 2`: none, "1 + none": none,
	} {
		wantValue(t, "P3.10", s, api.Record{}, none, want)
	}
}

func TestResultsThatAreTooGreat(t *testing.T) {
	twelve := list(list(times(6, none)...), list(times(3, num(1))...))
	for _, c := range []struct {
		s        string
		val, acc api.Value
		want     api.Value
	}{
		{`val + "x"`, text(long(23)), none, text(long(23) + "x")}, {`val + "x"`, text(long(24)), none, none}, {`val + ""`, text(long(24)), none, text(long(24))}, {"val + val", text(long(12)), none, text(long(24))}, {"val + val", text(long(13)), none, none},
		{"val + [1]", list(times(5, num(1))...), none, list(times(6, num(1))...)}, {"val + [1]", list(times(6, num(1))...), none, none}, {"val + []", list(times(6, num(1))...), none, list(times(6, num(1))...)}, {"val + val", list(times(3, none)...), none, list(times(6, none)...)}, {"val + val", list(times(4, none)...), none, none},
		{"[val]", nested(1), none, nested(2)}, {"[val]", nested(2), none, none}, {"[[val]]", nested(1), none, none}, {"[[[[]]]]", none, none, none}, {"[[[]]]", none, none, nested(2)}, {"[[[[[]]]]]", none, none, list(none)}, {"[1, [[[[]]]], 2]", none, none, list(num(1), none, num(2))},
		{"val", twelve, none, twelve}, {"[val]", twelve, none, none}, {"val + [1]", twelve, none, none}, {"val + []", twelve, none, twelve}, {"[val, 1]", list(times(6, none)...), none, list(list(times(6, none)...), num(1))}, {"[val, val]", list(times(6, none)...), none, none}, {"[val, acc]", list(times(6, none)...), list(times(3, none)...), list(list(times(6, none)...), list(times(3, none)...))}, {"[val, acc]", list(times(6, none)...), list(times(4, none)...), none}, {"[val, acc, 1]", list(times(6, none)...), list(times(3, none)...), none},
		{"put(val, 6, 1)", list(times(6, none)...), none, none}, {"put(val, 5, 1)", list(times(5, none)...), none, list(none, none, none, none, none, num(1))}, {"put(val, 0, acc)", list(none), nested(1), nested(2)}, {"put(val, 0, acc)", list(none), nested(2), none}, {"put(val, 1, acc)", list(none), nested(2), none}, {"put(val, 1, acc)", list(list(times(6, none)...), num(1)), list(times(2, none)...), list(list(times(6, none)...), list(none, none))}, {"put(val, 1, acc)", list(list(times(6, none)...), num(1)), list(times(4, none)...), none}, {"put(val, 2, 1)", twelve, none, none}, {"put(val, 1, none)", twelve, none, list(list(times(6, none)...), none)},
		{"kind([[[[1]]]])", none, none, num(0)}, {`len(val + "x")`, text(long(24)), none, none}, {"not (val + val)", text(long(24)), none, num(1)}, {"[val + val]", text(long(24)), none, list(none)},
		{"rev(val)", twelve, none, list(twelve.Items[1], twelve.Items[0])},
	} {
		wantValue(t, "P3.7", c.s, api.Record{Val: c.val}, c.acc, c.want)
	}
}

func TestListsOfValues(t *testing.T) {
	for s, want := range map[string]api.Value{
		"[]": list(), "[none]": list(none), "[none, 1, none]": list(none, num(1), none), `[1, "a", [2]]`: list(num(1), text("a"), list(num(2))), "[1, 2, 3, 4, 5, 6]": list(num(1), num(2), num(3), num(4), num(5), num(6)), "[1 / 0, key, hops]": list(none, text(""), none), "[[]]": list(list()), "[1 + 2, not 0]": list(num(3), num(1)),
	} {
		wantValue(t, "P3.11", s, api.Record{}, none, want)
	}
}

func TestLenKindIntText(t *testing.T) {
	for s, want := range map[string]api.Value{
		`len("")`: num(0), `len("abc")`: num(3), `len("\xc3\xa9")`: num(2), "len([])": num(0), "len([1, [2, 3]])": num(2), "len(1)": none, "len(none)": none,
		"kind(none)": num(0), "kind(0)": num(1), `kind("")`: num(2), "kind([])": num(3), "kind(1 / 0)": num(0),
		"int(5)": num(5), "int(-5)": num(-5), `int("5")`: num(5), `int("-5")`: num(-5), `int("007")`: num(7), `int("-007")`: num(-7), `int("0")`: num(0), `int("-0")`: num(0), `int("-00")`: num(0), `int("")`: none, `int("-")`: none, `int("--5")`: none, `int("+5")`: none, `int("-+5")`: none, `int("5-")`: none, `int(" 5")`: none, `int("5 ")`: none, `int("- 5")`: none, `int("5a")`: none, `int("a")`: none, `int("0x5")`: none, `int("1_000")`: none, `int("1e3")`: none, `int("5.0")`: none, `int("\x00")`: none, `int("5\x00")`: none, `int("none")`: none, "int(none)": none, "int([])": none, `int(["5"])`: none,
		`int("9223372036854775807")`: num(math.MaxInt64), `int("9223372036854775808")`: none, `int("-9223372036854775808")`: num(math.MinInt64), `int("-9223372036854775809")`: none, `int("000009223372036854775807")`: num(math.MaxInt64), `int("-00009223372036854775808")`: num(math.MinInt64), `int("000009223372036854775808")`: none, `int("999999999999999999999999")`: none, `int("18446744073709551617")`: none,
		`text("a")`: text("a"), `text("")`: text(""), "text(0)": text("0"), "text(12)": text("12"), "text(-12)": text("-12"), "text(none)": none, "text([])": none, `text(["a"])`: none,
		`int(text(-12))`: num(-12), `text(int("-012"))`: text("-12"),
	} {
		wantValue(t, "P3.12", s, api.Record{}, none, want)
	}
	for _, n := range edgeInts() {
		s := big.NewInt(n).String()
		wantValue(t, "P3.12", "text(val)", api.Record{Val: num(n)}, none, text(s))
		wantValue(t, "P3.12", "int(val)", api.Record{Val: text(s)}, none, num(n))
		wantValue(t, "P3.12", "int(val)", api.Record{Val: num(n)}, none, num(n))
	}
}

func TestSumSortRev(t *testing.T) {
	for s, want := range map[string]api.Value{
		"sum([])": num(0), "sum([5])": num(5), "sum([1, 2, 3])": num(6), "sum([1, -1])": num(0), `sum([1, "2"])`: none, "sum([none])": none, "sum([1, none])": none, "sum([[1]])": none, "sum(5)": none, `sum("5")`: none, "sum(none)": none,
		"sum([9223372036854775807, 1, -1])": none, "sum([9223372036854775807, -1, 1])": num(math.MaxInt64), "sum([1, -1, 9223372036854775807])": num(math.MaxInt64), "sum([-9223372036854775807, -1])": num(math.MinInt64), "sum([-9223372036854775807, -1, -1])": none, "sum([-9223372036854775807, -2, 5])": none,
		"sort([])": list(), "sort([1])": list(num(1)), "sort([3, 1, 2])": list(num(1), num(2), num(3)), "sort([2, 1, 2, 1])": list(num(1), num(1), num(2), num(2)), `sort([[], "a", 1, none])`: list(none, num(1), text("a"), list()), `sort([[2], [1, 5], [1]])`: list(list(num(1)), list(num(1), num(5)), list(num(2))), `sort("ba")`: none, "sort(1)": none, "sort(none)": none, `sort(["b", "ab", "a", ""])`: list(text(""), text("a"), text("ab"), text("b")), "sort([6, 5, 4, 3, 2, 1])": list(num(1), num(2), num(3), num(4), num(5), num(6)),
		"rev([])": list(), "rev([1])": list(num(1)), "rev([1, 2, 3])": list(num(3), num(2), num(1)), "rev([1, [2, 3]])": list(list(num(2), num(3)), num(1)), `rev("")`: text(""), `rev("abc")`: text("cba"), `rev("\xc3\xa9")`: text("\xa9\xc3"), "rev(12)": none, "rev(none)": none,
	} {
		wantValue(t, "P3.12", s, api.Record{}, none, want)
	}
}

func TestPlaces(t *testing.T) {
	low, high := num(math.MinInt64), num(math.MaxInt64)
	for _, c := range []struct {
		s    string
		i    api.Value
		want api.Value
	}{
		{`at("abc", val)`, num(0), text("a")}, {`at("abc", val)`, num(2), text("c")}, {`at("abc", val)`, num(3), none}, {`at("abc", val)`, num(-1), text("c")}, {`at("abc", val)`, num(-3), text("a")}, {`at("abc", val)`, num(-4), none}, {`at("", val)`, num(0), none}, {`at("", val)`, num(-1), none}, {`at("abc", val)`, low, none}, {`at("abc", val)`, high, none}, {`at("abc", val)`, text("0"), none}, {`at("abc", val)`, none, none}, {`at("\xc3\xa9", val)`, num(1), text("\xa9")},
		{"at([4, [5], 6], val)", num(0), num(4)}, {"at([4, [5], 6], val)", num(1), list(num(5))}, {"at([4, [5], 6], val)", num(3), none}, {"at([4, [5], 6], val)", num(-1), num(6)}, {"at([4, [5], 6], val)", num(-3), num(4)}, {"at([4, [5], 6], val)", num(-4), none}, {"at([], val)", num(0), none}, {"at([], val)", num(-1), none}, {"at([4], val)", low, none}, {"at([4], val)", high, none}, {"at([4], val)", list(), none}, {"at(4, val)", num(0), none}, {"at(none, val)", num(0), none},
		{`take("abc", val)`, num(2), text("ab")}, {`take("abc", val)`, num(0), text("")}, {`take("abc", val)`, num(3), text("abc")}, {`take("abc", val)`, num(4), text("abc")}, {`take("abc", val)`, num(-1), text("")}, {`take("abc", val)`, low, text("")}, {`take("abc", val)`, high, text("abc")}, {`take("abc", val)`, none, none}, {`take("", val)`, num(1), text("")},
		{"take([1, 2], val)", num(1), list(num(1))}, {"take([1, 2], val)", num(0), list()}, {"take([1, 2], val)", num(2), list(num(1), num(2))}, {"take([1, 2], val)", num(3), list(num(1), num(2))}, {"take([1, 2], val)", num(-1), list()}, {"take([1, 2], val)", low, list()}, {"take([1, 2], val)", high, list(num(1), num(2))}, {"take([1, 2], val)", text("1"), none}, {"take(5, val)", num(1), none}, {"take(none, val)", num(0), none},
		{`drop("abc", val)`, num(2), text("c")}, {`drop("abc", val)`, num(0), text("abc")}, {`drop("abc", val)`, num(3), text("")}, {`drop("abc", val)`, num(4), text("")}, {`drop("abc", val)`, num(-1), text("abc")}, {`drop("abc", val)`, low, text("abc")}, {`drop("abc", val)`, high, text("")}, {`drop("abc", val)`, none, none},
		{"drop([1, 2], val)", num(1), list(num(2))}, {"drop([1, 2], val)", num(0), list(num(1), num(2))}, {"drop([1, 2], val)", num(2), list()}, {"drop([1, 2], val)", num(3), list()}, {"drop([1, 2], val)", num(-1), list(num(1), num(2))}, {"drop([1, 2], val)", low, list(num(1), num(2))}, {"drop([1, 2], val)", high, list()}, {"drop([1, 2], val)", list(num(1)), none}, {"drop(5, val)", num(1), none}, {"drop(none, val)", num(0), none},
		{"put([1, 2], val, 9)", num(0), list(num(9), num(2))}, {"put([1, 2], val, 9)", num(1), list(num(1), num(9))}, {"put([1, 2], val, 9)", num(2), list(num(1), num(2), num(9))}, {"put([1, 2], val, 9)", num(3), none}, {"put([1, 2], val, 9)", num(-1), list(num(1), num(9))}, {"put([1, 2], val, 9)", num(-2), list(num(9), num(2))}, {"put([1, 2], val, 9)", num(-3), none}, {"put([], val, 9)", num(0), list(num(9))}, {"put([], val, 9)", num(-1), none}, {"put([], val, 9)", num(1), none}, {"put([1], val, 9)", low, none}, {"put([1], val, 9)", high, none}, {"put([1], val, 9)", text("0"), none}, {"put([1], val, 9)", none, none}, {"put([1], val, none)", num(0), list(none)}, {"put([1], val, none)", num(1), list(num(1), none)}, {"put([1], val, [])", num(0), list(list())}, {`put("abc", val, "x")`, num(0), none}, {"put(1, val, 1)", num(0), none}, {"put(none, val, 1)", num(0), none},
	} {
		wantValue(t, "P3.12", c.s, api.Record{Val: c.i}, none, c.want)
	}
}

func TestMinMaxHas(t *testing.T) {
	for s, want := range map[string]api.Value{
		"min(1, 2)": num(1), "min(2, 1)": num(1), "max(1, 2)": num(2), "max(2, 1)": num(2), "min(1, 1)": num(1), "max(1, 1)": num(1), `min(2, "a")`: num(2), `max(2, "a")`: text("a"), "min(none, 0)": none, "max(none, 0)": num(0), `max("a", [])`: list(), `min([], "a")`: text("a"), "min([1], [1, none])": list(num(1)), "max([1], [1, none])": list(num(1), none),
		"has([1, 2], 2)": num(1), "has([1, 2], 3)": num(0), "has([], none)": num(0), "has([none], none)": num(1), "has([1], \"1\")": num(0), "has([[1], 2], [1])": num(1), "has([[1], 2], 1)": num(0), `has(["ab"], "a")`: num(0), "has([1], 1 / 0)": num(0),
		`has("abc", "bc")`: num(1), `has("abc", "ac")`: num(0), `has("abc", "")`: num(1), `has("", "")`: num(1), `has("", "a")`: num(0), `has("abc", "abc")`: num(1), `has("abc", "abcd")`: num(0), `has("\xc3\xa9", "\xa9")`: num(1), `has("abc", 1)`: none, `has("abc", none)`: none, `has("abc", ["a"])`: none, `has("abc", [])`: none, "has(1, 1)": none, "has(none, none)": none, "has(12, \"1\")": none,
	} {
		wantValue(t, "P3.12", s, api.Record{}, none, want)
	}
}

func TestCallsOverAllKinds(t *testing.T) {
	all := append(someValues(), faultyValues()[:3]...)
	for name, sides := range sidesOf {
		for _, a := range all {
			for _, b := range all {
				s := name + []string{"(val)", "(val, acc)", "(val, acc, 7)"}[sides-1]
				wantValue(t, "P3.12", s, api.Record{Val: a}, b, callWorth(name, []api.Value{valid(a), valid(b), num(7)}[:sides]))
			}
		}
	}
}

func TestTreesByChance(t *testing.T) {
	c := chanceFrom(5)
	seen := map[int]int{}
	for range 30000 {
		tree := c.tree(c.Intn(9))
		s := tree.loud()
		if _, e := firstFault(s); e != 0 {
			continue
		}
		r, acc := c.scope()
		want := tree.worth(r, acc)
		seen[want.Kind]++
		wantValue(t, "P3.7 to P3.13", s, r, acc, want)
		if value.Check(want) != api.OK {
			t.Fatalf("the model gives a value of %q that isn't valid: %+v", s, want)
		}
	}
	for kind := range 4 {
		if seen[kind] < 1000 {
			t.Errorf("only %d values of kind %d were looked at", seen[kind], kind)
		}
	}
}

func TestValuesThatComeOutAreValid(t *testing.T) {
	c := chanceFrom(6)
	for range 20000 {
		s := c.tree(c.Intn(12)).loud()
		if len(s) > 100 {
			s = s[:100]
		}
		r, acc := c.scope()
		v, _ := expr.Eval(s, r, acc)
		if value.Check(v) != api.OK {
			t.Errorf("P3.7: Eval(%q, %+v, %+v) answers %+v, which isn't valid", s, r, acc, v)
		}
	}
	deepest := strings.Repeat("[", 10) + strings.Repeat("]", 10)
	if v, err := expr.Eval(deepest, api.Record{}, none); err != nil || value.Check(v) != api.OK {
		t.Errorf("P3.7: Eval(%q) answers %+v, %v", deepest, v, err)
	}
}
