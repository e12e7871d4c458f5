package expr

import (
	"slices"
	"strconv"
	"strings"

	"eddy/api"
	"eddy/value"
)

// call is a call of the language: its name, how many sides it takes, and what it does with their values, which aren't to be changed.
type call struct {
	name  string
	sides int
	do    func(x []api.Value) api.Value
}

func calls() [14]call {
	return [...]call{
		{"len", 1, length},
		{"kind", 1, kind},
		{"int", 1, toInt},
		{"text", 1, toText},
		{"sum", 1, summed},
		{"sort", 1, sorted},
		{"rev", 1, reversed},
		{"at", 2, itemAt},
		{"take", 2, taken},
		{"drop", 2, dropped},
		{"min", 2, least},
		{"max", 2, greatest},
		{"has", 2, holds},
		{"put", 3, put},
	}
}

func findCall(name string) (call, bool) {
	for _, c := range calls() {
		if c.name == name {
			return c, true
		}
	}
	return call{}, false
}

func length(x []api.Value) api.Value {
	switch v := x[0]; v.Kind {
	case api.Text:
		return intOf(int64(len(v.Text)))
	case api.List:
		return intOf(int64(len(v.Items)))
	}
	return api.Value{}
}

// kind: the kinds' numbers in api are the ones that the language tells.
func kind(x []api.Value) api.Value { return intOf(int64(x[0].Kind)) }

func toInt(x []api.Value) api.Value {
	switch v := x[0]; v.Kind {
	case api.Int:
		return v
	case api.Text:
		return readInt(v.Text)
	}
	return api.Value{}
}

func readInt(s string) api.Value {
	// ParseInt takes a + ahead too, which is no digit.
	bare := strings.TrimPrefix(s, "-")
	if span(bare, digits) < len(bare) {
		return api.Value{}
	}
	n, err := strconv.ParseInt(s, 10, 64)
	if err != nil {
		return api.Value{}
	}
	return intOf(n)
}

func toText(x []api.Value) api.Value {
	switch v := x[0]; v.Kind {
	case api.Int:
		return textOf(value.Print(v))
	case api.Text:
		return v
	}
	return api.Value{}
}

func summed(x []api.Value) api.Value {
	if x[0].Kind != api.List {
		return api.Value{}
	}
	// Once it is none, it stays none.
	all, add := intOf(0), ofInts(total)
	for _, item := range x[0].Items {
		all = add(all, item)
	}
	return all
}

func sorted(x []api.Value) api.Value {
	if x[0].Kind != api.List {
		return api.Value{}
	}
	items := slices.Clone(x[0].Items)
	slices.SortFunc(items, value.Compare)
	return listOf(items)
}

func reversed(x []api.Value) api.Value {
	switch v := x[0]; v.Kind {
	case api.Text:
		text := []byte(v.Text)
		slices.Reverse(text)
		return textOf(string(text))
	case api.List:
		items := slices.Clone(v.Items)
		slices.Reverse(items)
		return listOf(items)
	}
	return api.Value{}
}

func itemAt(x []api.Value) api.Value {
	v, i := x[0], x[1]
	if i.Kind != api.Int {
		return api.Value{}
	}
	switch v.Kind {
	case api.Text:
		if k, ok := place(i.Int, len(v.Text)); ok {
			return textOf(v.Text[k : k+1])
		}
	case api.List:
		if k, ok := place(i.Int, len(v.Items)); ok {
			return v.Items[k]
		}
	}
	return api.Value{}
}

// place gives the place, of size ones, that i means: from 0 on from the front, from -1 on from the back.
func place(i int64, size int) (int, bool) {
	if i < 0 {
		i += int64(size)
	}
	if i < 0 || i >= int64(size) {
		return 0, false
	}
	return int(i), true
}

func taken(x []api.Value) api.Value {
	front, _ := parted(x[0], x[1])
	return front
}

func dropped(x []api.Value) api.Value {
	_, back := parted(x[0], x[1])
	return back
}

// parted gives the first n bytes or items of v, and what they leave.
func parted(v, n api.Value) (front, back api.Value) {
	if n.Kind != api.Int {
		return api.Value{}, api.Value{}
	}
	switch v.Kind {
	case api.Text:
		k := bounded(n.Int, len(v.Text))
		return textOf(v.Text[:k]), textOf(v.Text[k:])
	case api.List:
		k := bounded(n.Int, len(v.Items))
		return listOf(v.Items[:k]), listOf(v.Items[k:])
	}
	return api.Value{}, api.Value{}
}

// bounded gives n, or the nearest number from 0 to most.
func bounded(n int64, most int) int {
	return int(min(max(n, 0), int64(most)))
}

func least(x []api.Value) api.Value {
	if value.Compare(x[0], x[1]) < 0 {
		return x[0]
	}
	return x[1]
}

func greatest(x []api.Value) api.Value {
	if value.Compare(x[0], x[1]) > 0 {
		return x[0]
	}
	return x[1]
}

func holds(x []api.Value) api.Value {
	v, y := x[0], x[1]
	switch {
	case v.Kind == api.List:
		return truth(slices.ContainsFunc(v.Items, func(item api.Value) bool { return value.Compare(item, y) == 0 }))
	case v.Kind == api.Text && y.Kind == api.Text:
		return truth(strings.Contains(v.Text, y.Text))
	}
	return api.Value{}
}

func put(x []api.Value) api.Value {
	v, i, y := x[0], x[1], x[2]
	if v.Kind != api.List || i.Kind != api.Int {
		return api.Value{}
	}
	items := slices.Clone(v.Items)
	if i.Int == int64(len(items)) {
		return listOf(append(items, y))
	}
	k, ok := place(i.Int, len(items))
	if !ok {
		return api.Value{}
	}
	items[k] = y
	return listOf(items)
}
