package expr

import (
	"math"
	"slices"

	"eddy/api"
	"eddy/value"
)

// joining gives what a sign or a word between two sides does.
func joining(name string) func(a, b api.Value) api.Value {
	switch name {
	case "or":
		return func(a, b api.Value) api.Value { return truth(True(a) || True(b)) }
	case "and":
		return func(a, b api.Value) api.Value { return truth(True(a) && True(b)) }
	case "+":
		return added
	case "-":
		return ofInts(difference)
	case "*":
		return ofInts(product)
	case "/":
		return ofInts(quotient)
	case "%":
		return ofInts(remainder)
	}
	return comparing(name)
}

func comparing(name string) func(a, b api.Value) api.Value {
	passes := func(order int) bool { return order >= 0 }
	switch name {
	case "==":
		passes = func(order int) bool { return order == 0 }
	case "!=":
		passes = func(order int) bool { return order != 0 }
	case "<":
		passes = func(order int) bool { return order < 0 }
	case "<=":
		passes = func(order int) bool { return order <= 0 }
	case ">":
		passes = func(order int) bool { return order > 0 }
	}
	return func(a, b api.Value) api.Value { return truth(passes(value.Compare(a, b))) }
}

func denied(v api.Value) api.Value { return truth(!True(v)) }

func negated(v api.Value) api.Value { return ofInts(difference)(intOf(0), v) }

// ofInts gives what a sign does that is for two ints alone; reckon tells too whether there is such a number within int64.
func ofInts(reckon func(a, b int64) (int64, bool)) func(a, b api.Value) api.Value {
	return func(a, b api.Value) api.Value {
		if a.Kind != api.Int || b.Kind != api.Int {
			return api.Value{}
		}
		n, ok := reckon(a.Int, b.Int)
		if !ok {
			return api.Value{}
		}
		return intOf(n)
	}
}

func added(a, b api.Value) api.Value {
	switch {
	case a.Kind == api.Text && b.Kind == api.Text:
		return textOf(a.Text + b.Text)
	case a.Kind == api.List && b.Kind == api.List:
		return listOf(slices.Concat(a.Items, b.Items))
	}
	return ofInts(total)(a, b)
}

// total: a sum that wraps round goes the wrong way from a.
func total(a, b int64) (int64, bool) {
	n := a + b
	return n, (n < a) == (b < 0)
}

// difference: one that wraps round goes the wrong way from a.
func difference(a, b int64) (int64, bool) {
	n := a - b
	return n, (n > a) == (b < 0)
}

// product: one that wraps round can't be divided back, but for the least number's opposite, which wraps round both ways.
func product(a, b int64) (int64, bool) {
	if b == 0 {
		return 0, true
	}
	n := a * b
	return n, n/b == a && !isOpposite(a, b)
}

// isOpposite tells whether a times b, or a by b, would be the opposite of the least number, which there isn't.
func isOpposite(a, b int64) bool { return a == math.MinInt64 && b == -1 }

// quotient: Go's division cuts towards 0; where something was cut off a number below 0, the next one below is meant.
func quotient(a, b int64) (int64, bool) {
	if b == 0 || isOpposite(a, b) {
		return 0, false
	}
	n := a / b
	if a%b != 0 && (a < 0) != (b < 0) {
		n--
	}
	return n, true
}

func remainder(a, b int64) (int64, bool) {
	if b == 0 {
		return 0, false
	}
	n := a % b
	if n != 0 && (a < 0) != (b < 0) {
		n += b
	}
	return n, true
}
