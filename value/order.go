package value

import (
	"cmp"
	"slices"
	"strings"

	"eddy/api"
)

// Compare tells the order of two values: -1, 0, 1.
func Compare(a, b api.Value) int {
	return order(orNone(a), orNone(b))
}

// order compares two valid values. The kinds' numbers rise as the kinds stand.
func order(a, b api.Value) int {
	if a.Kind != b.Kind {
		return cmp.Compare(a.Kind, b.Kind)
	}
	switch a.Kind {
	case api.Int:
		return cmp.Compare(a.Int, b.Int)
	case api.Text:
		return strings.Compare(a.Text, b.Text)
	}
	return slices.CompareFunc(a.Items, b.Items, order)
}
