package memory

import (
	"strings"

	"eddy/api"
)

// A list is one that hangs on a thing, with its spare room, whatever it is a list of.
type list interface {
	told() string
	fill(text string, number int)
	extend()
	items(m *Memory)
	roomy(lend func(string) string) any
}

// A listOf is a list of things of one type.
type listOf[T any] []T

func (l listOf[T]) told() string {
	var all strings.Builder
	for _, item := range l[:cap(l)] {
		all.WriteString(flat(item))
		all.WriteByte(' ')
	}
	return all.String()
}

func (l listOf[T]) fill(text string, number int) {
	all := l[:cap(l)]
	for k := range all {
		all[k] = mark[T](text, number)
	}
}

func (l listOf[T]) extend() { _ = append(l, mark[T]("behind", 99), mark[T]("behind", 99)) }

func (l listOf[T]) items(m *Memory) {
	for _, item := range l {
		m.add(item)
	}
}

func (l listOf[T]) roomy(lend func(string) string) any {
	all := make([]T, len(l)+3)
	listOf[T](all).fill("spare", 77)
	for k, item := range l {
		all[k] = Roomy(item, lend)
	}
	return all[:len(l)]
}

// asList gives a list whose items' type nobody has to know. A test that hands in another thing is at fault itself: it panics.
func asList(thing any) list {
	switch x := thing.(type) {
	case []int:
		return listOf[int](x)
	case []byte:
		return listOf[byte](x)
	case [][]byte:
		return listOf[[]byte](x)
	case []string:
		return listOf[string](x)
	case []api.Value:
		return listOf[api.Value](x)
	case []api.Record:
		return listOf[api.Record](x)
	case [][]api.Record:
		return listOf[[]api.Record](x)
	case []api.Cell:
		return listOf[api.Cell](x)
	case []api.State:
		return listOf[api.State](x)
	case []api.Part:
		return listOf[api.Part](x)
	case []api.Task:
		return listOf[api.Task](x)
	case []api.Edge:
		return listOf[api.Edge](x)
	case []api.Event:
		return listOf[api.Event](x)
	case []api.Trail:
		return listOf[api.Trail](x)
	case []api.File:
		return listOf[api.File](x)
	case []api.Flight:
		return listOf[api.Flight](x)
	case []api.Op:
		return listOf[api.Op](x)
	}
	panic("memory: a thing of an unknown type")
}
