package pen

import (
	"iter"
	"slices"
)

// Rows goes through all lists of so many things of some; a list is lent till the next one comes.
func Rows[T any](from []T, count int) iter.Seq[[]T] {
	row := make([]T, 0, count)
	return func(yield func([]T) bool) { extend(from, row, yield) }
}

// extend goes through all rows that begin as this one, and tells whether more are wanted.
func extend[T any](from, row []T, yield func([]T) bool) bool {
	if len(row) == cap(row) {
		return yield(row)
	}
	for _, item := range from {
		if !extend(from, append(row, item), yield) {
			return false
		}
	}
	return true
}

// Roomy copies a list, each item as one copies it, with spare room behind it that holds marks.
func Roomy[T any](items []T, mark T, one func(T) T) []T {
	all := slices.Repeat([]T{mark}, len(items)+3)
	for k, item := range items {
		all[k] = one(item)
	}
	return all[:len(items)]
}

// Plain gives the thing itself, for lists of things that hold no others.
func Plain[T any](item T) T { return item }

// Fill writes a mark over all items of lists.
func Fill[T any](lists [][]T, mark T) {
	for _, list := range lists {
		for k := range list {
			list[k] = mark
		}
	}
}

// Apart writes over all items of lists, in each with a mark of its own, and tells whether each list holds its mark then: whether no two of them share memory.
func Apart[T any](lists [][]T, mark func(int) T, same func(T, T) bool) bool {
	for k, list := range lists {
		Fill([][]T{list}, mark(k))
	}
	for k, list := range lists {
		if slices.ContainsFunc(list, func(item T) bool { return !same(item, mark(k)) }) {
			return false
		}
	}
	return true
}
