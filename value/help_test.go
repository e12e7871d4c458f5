package value

import (
	"math"
	"math/rand"
	"strings"
	"testing"

	"eddy/api"
)

var none api.Value

func num(n int64) api.Value             { return api.Value{Kind: api.Int, Int: n} }
func text(s string) api.Value           { return api.Value{Kind: api.Text, Text: s} }
func list(items ...api.Value) api.Value { return api.Value{Kind: api.List, Items: items} }

// long gives a text of n bytes.
func long(n int) string { return strings.Repeat("a", n) }

// times gives n values v.
func times(n int, v api.Value) []api.Value {
	var l []api.Value
	for range n {
		l = append(l, v)
	}
	return l
}

// nested gives the empty list with as many lists around it as its depth.
func nested(depth int) api.Value {
	v := list()
	for range depth {
		v = list(v)
	}
	return v
}

// same tells whether two values are the same field by field, nil and empty being the same.
func same(a, b api.Value) bool {
	if a.Kind != b.Kind || a.Int != b.Int || a.Text != b.Text || len(a.Items) != len(b.Items) {
		return false
	}
	for k := range a.Items {
		if !same(a.Items[k], b.Items[k]) {
			return false
		}
	}
	return true
}

// clone gives a value in memory of its own.
func clone(v api.Value) api.Value {
	var items []api.Value
	for _, item := range v.Items {
		items = append(items, clone(item))
	}
	v.Items = items
	return v
}

// placed is a part of a value, with its depth.
type placed struct {
	v     api.Value
	depth int
}

// partsOf gives the parts of a value from the left.
func partsOf(v api.Value, depth int) []placed {
	all := []placed{{v, depth}}
	for _, item := range v.Items {
		all = append(all, partsOf(item, depth+1)...)
	}
	return all
}

// verdict answers what P2.1 asks of Check, without this package's help.
func verdict(v api.Value) api.Errno {
	for k, p := range partsOf(v, 0) {
		x := p.v
		switch {
		case k == 12:
			return api.ErrValItems
		case x.Kind < 0 || x.Kind > 3 || x.Int != 0 && x.Kind != 1 || x.Text != "" && x.Kind != 2 || len(x.Items) > 0 && x.Kind != 3:
			return api.ErrValKind
		case x.Kind == 3 && p.depth >= 3:
			return api.ErrValDepth
		case len(x.Text) > 24:
			return api.ErrValText
		case len(x.Items) > 6:
			return api.ErrValItems
		}
	}
	return api.OK
}

// someTexts are texts of every kind of byte and of the edges of UTF-8.
func someTexts() []string {
	return []string{
		"", "\x00", "\x00\x01", "\t", "\n", "\r", "\x1f", " ", "!", "\"", "#", "[", "\\", "]", "a", "a\"\u00e9", "ab", "none", "~", "\x7f",
		"\x80", "\xbf", "\xc0\xaf", "\xc2", "\u0080", "\u009f", "\u00a0", "\u00a1", "\u07ff", "\u0800", "\u20ac", "\xe2\x82", "\xe2\x82\u20ac", "\xed\xa0\x80",
		"\ufffd", "\ufffd\xff", "\xff\ufffd", "\uffff", "\U00010000", "\U0010ffff", "\xf4\x90\x80\x80", "\xf0\x9f\x98", "\xff", long(23), long(24), strings.Repeat("\xff", 24), strings.Repeat("\u20ac", 8),
	}
}

// someInts are the edges of the ints, and of the groups in which they are written.
func someInts() []int64 {
	ints := []int64{math.MinInt64, math.MinInt64 + 1, math.MaxInt64 - 1, math.MaxInt64, 0, 1, -1, 9, 10, -10}
	for shift := 6; shift < 63; shift += 7 {
		edge := int64(1) << shift
		ints = append(ints, edge-1, edge, edge+1, -edge+1, -edge, -edge-1)
	}
	return ints
}

// someValues are valid values of every kind and at the limits; no two are the same.
func someValues() []api.Value {
	l := []api.Value{none}
	for _, n := range someInts() {
		l = append(l, num(n))
	}
	for _, s := range someTexts() {
		l = append(l, text(s))
	}
	return append(l,
		list(), list(none), list(none, none), list(num(0)), list(num(1)), list(num(1), none), list(num(2)), list(text("")), list(text("a"), num(-1)), list(num(-1), text("a\"\u00e9"), none),
		nested(1), nested(2), list(list(), list()), list(list(), list(list())), list(list(list()), list()), list(list(list(num(1)))), list(num(1), list(num(2), num(3))),
		list(times(5, none)...), list(times(6, none)...), list(times(6, text(long(24)))...), list(list(times(6, none)...), list(times(3, num(1))...)), list(list(times(4, num(7))...), list(times(4, none)...), num(7)),
		list(list(list(num(1), num(2)), list(num(3))), list(list(text("x")), none)))
}

// chance makes values from a seed, valid ones and others.
type chance struct{ *rand.Rand }

func chanceFrom(seed int64) chance { return chance{rand.New(rand.NewSource(seed))} }

// value makes a value of few parts, one field of which is wrong now and then.
func (c chance) value(depth int) api.Value {
	texts, ints := someTexts(), someInts()
	v := api.Value{Kind: c.Intn(4)}
	switch v.Kind {
	case 1:
		v.Int = ints[c.Intn(len(ints))]
	case 2:
		v.Text = texts[c.Intn(len(texts))]
	case 3:
		for range c.Intn(8) {
			if depth < 4 && c.Intn(3) > 0 {
				v.Items = append(v.Items, c.value(depth+1))
			} else {
				v.Items = append(v.Items, none)
			}
		}
	}
	switch c.Intn(60) {
	case 0:
		v.Kind = c.Intn(8) - 2
	case 1:
		v.Int = int64(c.Intn(3) - 1)
	case 2:
		v.Text = long(c.Intn(3) + 23)
	case 3:
		v.Items = times(c.Intn(9), none)
	}
	return v
}

func TestNumbersAreTheChapters(t *testing.T) {
	got := []int{
		int(api.ErrValKind), int(api.ErrValText), int(api.ErrValItems), int(api.ErrValDepth), int(api.ErrValKey), int(api.ErrValLoops), int(api.ErrValNum), int(api.ErrValCells), int(api.ErrValSyntax), int(api.ErrValInt),
		api.MaxText, api.MaxItems, api.MaxNodes, api.MaxDepth, api.MaxKey, api.MaxLoops, api.MaxHops, api.MaxNum, api.MaxCells,
		api.None, api.Int, api.Text, api.List,
	}
	for k, want := range []int{20, 21, 22, 23, 24, 25, 26, 27, 28, 29, 24, 6, 12, 3, 12, 3, 9, 1 << 30, 64, 0, 1, 2, 3} {
		if got[k] != want {
			t.Errorf("number %d is %d, want %d", k, got[k], want)
		}
	}
}
