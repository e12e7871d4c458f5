package wire_test

import (
	"fmt"
	"math/rand"
	"reflect"
	"slices"
	"strings"
	"testing"

	"eddy/api"
	"eddy/wire"
)

var none api.Value

func num(n int64) api.Value           { return api.Value{Kind: api.Int, Int: n} }
func text(s string) api.Value         { return api.Value{Kind: api.Text, Text: s} }
func list(v ...api.Value) api.Value   { return api.Value{Kind: api.List, Items: v} }
func long(n int) string               { return strings.Repeat("k", n) }
func join(parts ...[]byte) []byte     { return slices.Concat(parts...) }
func times(n int, part []byte) []byte { return slices.Concat(slices.Repeat([][]byte{part}, n)...) }

// hex reads bytes that are written as the chapter writes them.
func hex(s string) []byte {
	var b []byte
	for _, word := range strings.Fields(s) {
		var x byte
		if _, err := fmt.Sscanf(word, "%02X", &x); err != nil || len(word) != 2 {
			panic("no byte: " + word)
		}
		b = append(b, x)
	}
	return b
}

// shown writes a thing so that a nil list and an empty one look the same, and unlike things don't.
func shown(thing any) string { return strings.ReplaceAll(fmt.Sprintf("%#v", thing), "(nil)", "{}") }

func same(a, b any) bool { return reflect.DeepEqual(a, b) || shown(a) == shown(b) }

// short writes bytes for a message.
func short(b []byte) string {
	if len(b) > 60 {
		return fmt.Sprintf("% X .. (%d bytes)", b[:60], len(b))
	}
	return fmt.Sprintf("% X", b)
}

// keys gives n keys that rise.
func keys(n int) []string {
	var all []string
	for k := range n {
		all = append(all, fmt.Sprintf("%03d", k))
	}
	return all
}

func cells(n int) []api.Cell {
	var all []api.Cell
	for _, key := range keys(n) {
		all = append(all, api.Cell{Key: key})
	}
	return all
}

// A kind is one of the five things with its two calls, so that what holds for all of them is asked of each.
type kind struct {
	name string
	get  func([]byte) (any, api.Errno)
	put  func(any) ([]byte, api.Errno)
	zero any
	form form
	make func(*rand.Rand) any
	lay  func(any) []byte
	look func(any) api.Errno
}

func kindOf[T any](name string, get func([]byte) (T, api.Errno), put func(T) ([]byte, api.Errno), f form, make func(*rand.Rand) T, lay func(T) []byte, look func(T) api.Errno) kind {
	var zero T
	return kind{
		name: name,
		get:  func(b []byte) (any, api.Errno) { return get(b) },
		put:  func(thing any) ([]byte, api.Errno) { return put(thing.(T)) },
		zero: zero,
		form: f,
		make: func(r *rand.Rand) any { return make(r) },
		lay:  func(thing any) []byte { return lay(thing.(T)) },
		look: func(thing any) api.Errno { return look(thing.(T)) },
	}
}

func kinds() []kind {
	return []kind{
		kindOf("Record", wire.GetRecord, wire.PutRecord, recordForm(), someRecord, layRecord, recordFault),
		kindOf("State", wire.GetState, wire.PutState, stateForm(), someState, layState, stateFault),
		kindOf("Segment", wire.GetSegment, wire.PutSegment, segmentForm(), someSegment, laySegment, segmentFault),
		kindOf("Manifest", wire.GetManifest, wire.PutManifest, manifestForm(), someManifest, layManifest, manifestFault),
		kindOf("Row", wire.GetRow, wire.PutRow, rowForm(), someRow, layRow, rowFault),
	}
}

func kindNamed(name string) kind {
	for _, k := range kinds() {
		if k.name == name {
			return k
		}
	}
	panic("no kind " + name)
}

// refuses fails the test unless Get answers want, and the zero thing.
func (k kind) refuses(t *testing.T, promise string, b []byte, want api.Errno) {
	t.Helper()
	if got, e := k.get(b); e != want || !same(got, k.zero) {
		t.Errorf("%s: Get%s(%s) answers %s, error %d, want error %d and zero", promise, k.name, short(b), shown(got), e, want)
	}
}

// reads fails the test unless Get answers want, and OK.
func (k kind) reads(t *testing.T, promise string, b []byte, want any) {
	t.Helper()
	if got, e := k.get(b); e != api.OK || !same(got, want) {
		t.Errorf("%s: Get%s(%s) answers %s, error %d, want %s", promise, k.name, short(b), shown(got), e, shown(want))
	}
}

// unfit fails the test unless Put answers want, and no bytes.
func (k kind) unfit(t *testing.T, promise string, thing any, want api.Errno) {
	t.Helper()
	if b, e := k.put(thing); e != want || len(b) != 0 {
		t.Errorf("%s: Put%s(%.300s) answers %s, error %d, want error %d and no bytes", promise, k.name, shown(thing), short(b), e, want)
	}
}

// writes fails the test unless Put answers want, and OK.
func (k kind) writes(t *testing.T, promise string, thing any, want []byte) {
	t.Helper()
	if b, e := k.put(thing); e != api.OK || string(b) != string(want) {
		t.Errorf("%s: Put%s(%.300s) answers %s, error %d, want %s", promise, k.name, shown(thing), short(b), e, short(want))
	}
}

// bothWays fails the test unless thing is written as b and b is read as thing.
func (k kind) bothWays(t *testing.T, promise string, thing any, b []byte) {
	t.Helper()
	k.writes(t, promise, thing, b)
	k.reads(t, promise, b, thing)
}
