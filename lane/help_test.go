package lane_test

import (
	"fmt"
	"reflect"
	"strconv"
	"strings"
	"testing"

	"eddy/api"
	"eddy/lane"
)

func num(n int64) api.Value         { return api.Value{Kind: api.Int, Int: n} }
func text(s string) api.Value       { return api.Value{Kind: api.Text, Text: s} }
func list(v ...api.Value) api.Value { return api.Value{Kind: api.List, Items: v} }

func rec(key string) api.Record {
	return api.Record{Key: key, Val: text("of " + key), Loops: []int{len(key)}}
}
func item(key string) api.Item   { return api.Item{Rec: rec(key)} }
func marker(number int) api.Item { return api.Item{Mark: number} }

// records gives a record for each word.
func records(words string) []api.Record {
	var all []api.Record
	for _, word := range strings.Fields(words) {
		all = append(all, rec(word))
	}
	return all
}

// items gives an item for each word: a marker for a number, else a record.
func items(words string) []api.Item {
	var all []api.Item
	for _, word := range strings.Fields(words) {
		if n, err := strconv.Atoi(word); err == nil {
			all = append(all, marker(n))
		} else {
			all = append(all, item(word))
		}
	}
	return all
}

// shown writes a thing so that a nil list and an empty one look the same, and unlike things don't.
func shown(thing any) string { return strings.ReplaceAll(fmt.Sprintf("%#v", thing), "(nil)", "{}") }

func same(a, b any) bool { return reflect.DeepEqual(a, b) || shown(a) == shown(b) }

// keyed tells whether all records are those that rec makes, and all markers come without a record.
func keyed(all []api.Item) bool {
	for _, x := range all {
		if x.Mark == 0 && !same(x.Rec, rec(x.Rec.Key)) || x.Mark != 0 && !same(x.Rec, api.Record{}) {
			return false
		}
	}
	return true
}

// words writes items as the words of which they are made; what no words make is written whole.
func words(all []api.Item) string {
	if !keyed(all) {
		return shown(all)
	}
	var out []string
	for _, x := range all {
		if x.Mark != 0 {
			out = append(out, strconv.Itoa(x.Mark))
		} else {
			out = append(out, x.Rec.Key)
		}
	}
	return strings.Join(out, " ")
}

func wordsOf(all []api.Record) string {
	var wrapped []api.Item
	for _, r := range all {
		wrapped = append(wrapped, api.Item{Rec: r})
	}
	return words(wrapped)
}

// A tried lane is one whose answers are asked for by words, and fail the test where they are others.
type tried struct {
	*lane.Lane
	t       *testing.T
	promise string
}

func made(t *testing.T, promise string, room int) tried {
	t.Helper()
	l, e := lane.New(room)
	if l == nil || e != api.OK {
		t.Fatalf("P5.1: New(%d) answers %v, error %d", room, l, e)
	}
	return tried{l, t, promise}
}

// holding gives a lane of that room into which the words were put.
func holding(t *testing.T, promise string, room int, in string) tried {
	t.Helper()
	l := made(t, promise, room)
	l.puts(in, len(items(in)), api.OK)
	return l
}

func (l tried) puts(in string, want int, reason api.Errno) {
	l.t.Helper()
	if n, e := l.Put(items(in)...); n != want || e != reason {
		l.t.Errorf("%s: Put of %q answers %d, error %d, want %d, error %d", l.promise, in, n, e, want, reason)
	}
}

// takes asks Take for each of the words.
func (l tried) takes(want string) {
	l.t.Helper()
	for _, x := range items(want) {
		if got, ok := l.Take(); !ok || !same(got, x) {
			l.t.Errorf("%s: Take answers %s, %v, want %s", l.promise, shown(got), ok, shown(x))
		}
	}
}

func (l tried) peeks(want string) {
	l.t.Helper()
	if got, ok := l.Peek(); !ok || !same(got, items(want)[0]) {
		l.t.Errorf("%s: Peek answers %s, %v, want %s", l.promise, shown(got), ok, want)
	}
}

func (l tried) pulls(number int, ahead string) {
	l.t.Helper()
	if n, got := l.Pull(); n != number || wordsOf(got) != ahead {
		l.t.Errorf("%s: Pull answers %d, %q, want %d, %q", l.promise, n, wordsOf(got), number, ahead)
	}
}

func (l tried) refills(in string, want api.Errno) {
	l.t.Helper()
	if e := l.Refill(records(in)); e != want {
		l.t.Errorf("%s: Refill of %q answers error %d, want %d", l.promise, in, e, want)
	}
}

func (l tried) lists(want string) {
	l.t.Helper()
	if got := words(l.List()); got != want {
		l.t.Errorf("%s: List answers %q, want %q", l.promise, got, want)
	}
}

func (l tried) fullIs(want bool) {
	l.t.Helper()
	if l.Full() != want {
		l.t.Errorf("%s: Full answers %v, of a lane of %q", l.promise, !want, words(l.List()))
	}
}

func (l tried) closes(want string) {
	l.t.Helper()
	if got := words(l.Close()); got != want {
		l.t.Errorf("%s: Close answers %q, want %q", l.promise, got, want)
	}
}

// isEmpty asks every call that tells what there is.
func (l tried) isEmpty() {
	l.t.Helper()
	if x, ok := l.Peek(); ok || !same(x, api.Item{}) {
		l.t.Errorf("%s: Peek of an empty lane answers %s, %v", l.promise, shown(x), ok)
	}
	if x, ok := l.Take(); ok || !same(x, api.Item{}) {
		l.t.Errorf("%s: Take of an empty lane answers %s, %v", l.promise, shown(x), ok)
	}
	l.pulls(0, "")
	l.lists("")
	l.fullIs(false)
}
