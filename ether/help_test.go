package ether_test

import (
	"fmt"
	"strings"
	"testing"

	"eddy/api"
	"eddy/ether"
)

// The section of the chapter whose rules have no numbers.
const rules = "Rules for all calls"

// The chapter's numbers.
const (
	mostMachines = 8
	mostBytes    = 32776
	mostFlights  = 256
)

// A network is one, or the model of one.
type network interface {
	Send(from, to int, data []byte) api.Errno
	Deliver(i int) (api.Flight, bool)
	Drop(i int) bool
	Copy(i int) api.Errno
	Flip(i, bit int) bool
	List() []api.Flight
}

// made gives a network that may be.
func made(machines int) *ether.Ether {
	e, n := ether.New(machines)
	if e == nil || n != api.OK {
		panic(fmt.Sprintf("P23.1: New(%d): %d", machines, n))
	}
	return e
}

// filled gives a network of three machines with so many packets in flight: number k goes from k%3 to (k+1)%3, with the two bytes of k.
func filled(count int) *ether.Ether {
	e := made(3)
	for k := range count {
		if n := e.Send(k%3, (k+1)%3, []byte{byte(k), byte(k / 256)}); n != api.OK {
			panic(fmt.Sprintf("P23.2: packet %d: %d", k, n))
		}
	}
	return e
}

// tellFilled tells the packets of a filled network that have these numbers.
func tellFilled(numbers ...int) string {
	var all []string
	for _, k := range numbers {
		all = append(all, fmt.Sprintf("%d>%d:%02x%02x", k%3, (k+1)%3, k%256, k/256))
	}
	return strings.Join(all, " ")
}

// upTo gives the numbers from low on, below high.
func upTo(low, high int) []int {
	var all []int
	for k := low; k < high; k++ {
		all = append(all, k)
	}
	return all
}

// tell tells packets.
func tell(all ...api.Flight) string {
	var words []string
	for _, f := range all {
		words = append(words, fmt.Sprintf("%d>%d:%x", f.From, f.To, f.Data))
	}
	return strings.Join(words, " ")
}

// tellIn tells all packets in flight.
func tellIn(n network) string { return tell(n.List()...) }

// A call is one of a script.
type call struct {
	what string
	a, b int
	data []byte
}

func (c call) String() string {
	return fmt.Sprintf("%s(%d,%d,%.20x..%d)", c.what, c.a, c.b, c.data, len(c.data))
}

// on makes the call and gives what it answered.
func (c call) on(n network) (api.Flight, api.Errno, bool) {
	switch c.what {
	case "send":
		return api.Flight{}, n.Send(c.a, c.b, c.data), false
	case "deliver":
		f, ok := n.Deliver(c.a)
		return f, api.OK, ok
	case "drop":
		return api.Flight{}, api.OK, n.Drop(c.a)
	case "copy":
		return api.Flight{}, n.Copy(c.a), false
	case "flip":
		return api.Flight{}, api.OK, n.Flip(c.a, c.b)
	}
	panic("no call: " + c.what)
}

// told makes the call and tells what it answered.
func (c call) told(n network) string {
	f, e, ok := c.on(n)
	return fmt.Sprintf("%s %d %v", tell(f), e, ok)
}

func want[T comparable](t *testing.T, what string, got, wanted T) {
	t.Helper()
	if got != wanted {
		t.Errorf("%s: %.300v, want %.300v", what, got, wanted)
	}
}

// wantCases fails if fewer cases came up than a test was made for.
func wantCases(t *testing.T, cases map[string]int, least map[string]int) {
	t.Helper()
	for name, n := range least {
		if cases[name] < n {
			t.Errorf("%s: %d cases, want %d at least", name, cases[name], n)
		}
	}
}
