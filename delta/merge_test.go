package delta

import (
	"slices"
	"strings"
	"testing"

	"eddy/api"
)

// seen goes through two lists, at most so many keys, and writes each key with the lists that have it.
func seen(a []string, b []api.Cell, most int) string {
	var all []string
	for key, at := range merged(keys(a), cells(b)) {
		word := key
		if at.inA {
			word += "<" + at.a
		}
		if at.inB {
			word += ">" + at.b.Key
		}
		if all = append(all, word); len(all) == most {
			break
		}
	}
	return strings.Join(all, " ")
}

func TestMerged(t *testing.T) {
	c := func(l ...string) []api.Cell {
		var all []api.Cell
		for _, key := range l {
			all = append(all, api.Cell{Key: key})
		}
		return all
	}
	for _, x := range []struct {
		a    []string
		b    []api.Cell
		want string
	}{
		{nil, nil, ""},
		{[]string{"a", "b"}, nil, "a<a b<b"},
		{nil, c("a", "b"), "a>a b>b"},
		{[]string{"a", "b"}, c("a", "b"), "a<a>a b<b>b"},
		{[]string{"a", "c"}, c("b", "c", "d"), "a<a b>b c<c>c d>d"},
		{[]string{"b", "c", "d"}, c("a", "c"), "a>a b<b c<c>c d<d"},
		{[]string{"\x7f", "\xff"}, c("\x80"), "\x7f<\x7f \x80>\x80 \xff<\xff"},
		{[]string{""}, c(""), "<>"},
		{[]string{"", "a"}, c("a"), "< a<a>a"},
	} {
		if got := seen(x.a, x.b, 9); got != x.want {
			t.Errorf("Ways: %q and %v are merged as %q, want %q", x.a, x.b, got, x.want)
		}
	}
}

// TestMergedIsLeftAndGoneThroughAgain: an iterator that was left at any place begins anew.
func TestMergedIsLeftAndGoneThroughAgain(t *testing.T) {
	a, b := []string{"a", "c", "d"}, []api.Cell{{Key: "b"}, {Key: "c"}}
	want := strings.Fields("a<a b>b c<c>c d<d")
	for most := 1; most <= len(want); most++ {
		if got := seen(a, b, most); got != strings.Join(want[:most], " ") {
			t.Errorf("Ways: left at key %d, %q is seen", most, got)
		}
	}
	both := merged(keys(a), cells(b))
	for range both {
		break
	}
	for range 2 {
		var all []string
		for key := range both {
			all = append(all, key)
		}
		if !slices.Equal(all, []string{"a", "b", "c", "d"}) {
			t.Errorf("Ways: gone through again, the keys are %q", all)
		}
	}
	if !slices.Equal(a, []string{"a", "c", "d"}) || len(b) != 2 {
		t.Errorf("Ways: the lists are %q and %v behind that", a, b)
	}
}
