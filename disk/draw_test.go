package disk_test

import (
	"fmt"
	"math"
	"slices"

	"eddy/api"
	"eddy/pen"
)

// A writer draws files and calls. Its names are few, so that calls meet.
type writer struct {
	*pen.Pen
}

func (w writer) name() string {
	if w.Below(20) == 0 {
		return pen.One(w.Pen, "", "A", "a b", "abcdefghijklm", "a\x00", "\xff")
	}
	return w.rightName()
}

func (w writer) rightName() string {
	return pen.One(w.Pen, "a", "a", "b", "ab", "a-", "0", "z9", "abcdefghijkl")
}

func (w writer) bytes(most int) []byte {
	all := make([]byte, w.Below(most+1))
	for k := range all {
		all[k] = byte(w.Below(256))
	}
	return all
}

// number draws a number, a small one as a rule, with all edges.
func (w writer) number(most int) int {
	if w.Below(25) == 0 {
		return pen.One(w.Pen, math.MinInt, math.MaxInt, -1, api.MaxFile, 8*api.MaxFile)
	}
	return w.Between(-1, most)
}

func (w writer) files() []api.File {
	var all []api.File
	for range w.Below(5) {
		f := api.File{Name: w.rightName(), Data: w.bytes(6)}
		f.Synced = w.Below(len(f.Data) + 1)
		if !slices.ContainsFunc(all, func(g api.File) bool { return g.Name == f.Name }) {
			all = append(all, f)
		}
	}
	return all
}

func (w writer) numbers(count, most int) []int {
	all := make([]int, count)
	for k := range all {
		all[k] = w.number(most)
	}
	return all
}

// changingCall draws a changing call; one of an Append to a file near MaxFile is as long as that.
func (w writer) changingCall() call {
	c := call{what: pen.One(w.Pen, "append", "append", "append", "sync", "sync", "trim", "remove"), name: w.name()}
	switch c.what {
	case "append":
		c.data = w.bytes(5)
		if w.Below(60) == 0 {
			c.data = filled(byte(w.Below(256)), w.Between(api.MaxFile-8, api.MaxFile+1))
		}
	case "trim":
		c.nums = w.numbers(1, 8)
	}
	return c
}

func (w writer) call() call {
	switch w.Below(16) {
	case 0:
		return call{what: "read", name: w.name()}
	case 1:
		return call{what: "list"}
	case 2, 3:
		return call{what: "arm", nums: w.numbers(1, 14)}
	case 4:
		return call{what: "fail", nums: w.numbers(2, 3)}
	case 5:
		return pen.One(w.Pen, call{what: "crash"}, call{what: "files"})
	case 6, 7:
		return call{what: "restart", nums: w.numbers(w.Below(5), 5)}
	case 8:
		return call{what: "spoil", name: w.name(), nums: w.numbers(1, 50)}
	}
	return w.changingCall()
}

func (w writer) calls(count int) []call {
	all := make([]call, count)
	for k := range all {
		all[k] = w.call()
	}
	return all
}

// lastOf writes the last calls of a script.
func lastOf(script []call) string {
	return fmt.Sprint(len(script), " calls, the last of them ", script[max(0, len(script)-12):])
}
