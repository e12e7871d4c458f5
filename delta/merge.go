package delta

import (
	"iter"

	"eddy/api"
)

// rising: a list whose items rise by key, and how the key of an item is told.
type rising[T any] struct {
	items []T
	key   func(T) string
}

func cells(l []api.Cell) rising[api.Cell] {
	return rising[api.Cell]{l, func(c api.Cell) string { return c.Key }}
}

func keys(l []string) rising[string] {
	return rising[string]{l, func(key string) string { return key }}
}

func (r rising[T]) count() int { return len(r.items) }

// cut takes the first item off, if it has the key.
func (r *rising[T]) cut(key string) (T, bool) {
	if len(r.items) == 0 || r.key(r.items[0]) != key {
		var none T
		return none, false
	}
	item := r.items[0]
	r.items = r.items[1:]
	return item, true
}

// found: what two lists have of one key.
type found[A, B any] struct {
	a        A
	b        B
	inA, inB bool
}

// merged goes through two lists together: each key that one of them has or both have, once, rising. The lists themselves stay as they are, so it may be gone through again.
func merged[A, B any](a rising[A], b rising[B]) iter.Seq2[string, found[A, B]] {
	return func(yield func(string, found[A, B]) bool) {
		restA, restB := a, b
		for restA.count() > 0 || restB.count() > 0 {
			key := least(restA, restB)
			var at found[A, B]
			at.a, at.inA = restA.cut(key)
			at.b, at.inB = restB.cut(key)
			if !yield(key, at) {
				return
			}
		}
	}
}

// least gives the least key of two lists of which one at least has an item.
func least[A, B any](a rising[A], b rising[B]) string {
	if b.count() == 0 {
		return a.key(a.items[0])
	}
	if a.count() == 0 {
		return b.key(b.items[0])
	}
	return min(a.key(a.items[0]), b.key(b.items[0]))
}

// over gives the items of both lists; of a key that both have, the one on top.
func over[T any](under, top rising[T]) rising[T] {
	all := rising[T]{key: top.key}
	for _, at := range merged(under, top) {
		if at.inB {
			all.items = append(all.items, at.b)
		} else {
			all.items = append(all.items, at.a)
		}
	}
	return all
}

// without gives the items of a list whose keys the other one hasn't.
func without[A, B any](from rising[A], other rising[B]) rising[A] {
	left := rising[A]{key: from.key}
	for _, at := range merged(from, other) {
		if !at.inB {
			left.items = append(left.items, at.a)
		}
	}
	return left
}
