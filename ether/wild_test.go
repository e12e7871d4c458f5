package ether_test

import (
	"fmt"
	"math"
	"testing"

	"eddy/api"
	"eddy/ether"
	"eddy/pen"
)

// wildNumbers: what an int can be, around all that a network knows.
func wildNumbers() []int {
	return []int{math.MinInt, math.MinInt + 1, -1 << 32, -32776 * 8, -256, -9, -8, -1, 0, 1, 2, 7, 8, 9, 255, 256, 257, 32776, 32776*8 - 1, 32776 * 8, 1 << 32, 1<<61 - 1, 1 << 61, math.MaxInt - 1, math.MaxInt}
}

// TestWildNumbers: every call with any two numbers, at a network that is empty, has some packets, or is full: none panics, and the model answers the same.
func TestWildNumbers(t *testing.T) {
	for _, machines := range wildNumbers() {
		e, n := ether.New(machines)
		if (n == api.OK) != (e != nil) || (n == api.OK) != (machines >= 1 && machines <= 8) {
			t.Errorf("P23.1: New(%d): %v, %d", machines, e, n)
		}
	}
	for _, count := range []int{0, 1, 9, 256} {
		n, model := filled(count), &plain{machines: 3}
		for _, f := range n.List() {
			model.Send(f.From, f.To, f.Data)
		}
		for _, what := range []string{"send", "flip", "copy", "deliver", "drop"} {
			for _, a := range wildNumbers() {
				for _, b := range wildNumbers() {
					c := call{what: what, a: a, b: b, data: []byte{5}}
					want(t, fmt.Sprintf("%v of %d", c, count), c.told(n), c.told(model))
				}
			}
			want(t, "in flight", tellIn(n), tellIn(model))
		}
	}
}

// TestFarBeyond: packets that are far too long, and many more than have room.
func TestFarBeyond(t *testing.T) {
	e := made(8)
	long := make([]byte, 1<<26)
	for _, size := range []int{mostBytes + 1, 1 << 16, 1<<16 + 1, 1 << 20, 1 << 26} {
		want(t, fmt.Sprintf("P23.2: Send of %d bytes", size), e.Send(0, 7, long[:size]), api.ErrEtherLong)
	}
	want(t, "P23.2: Send of the longest, with much room behind it", e.Send(0, 7, long[:mostBytes]), api.OK)
	for k := range 100000 {
		wanted := api.OK
		if k >= mostFlights-1 {
			wanted = api.ErrEtherFull
		}
		if n := e.Send(k%8, (k+1)%8, nil); n != wanted {
			t.Fatalf("P23.2: packet %d: %d, want %d", k, n, wanted)
		}
	}
	want(t, "P23.8: in flight", len(e.List()), mostFlights)
}

// TestAllLong: 256 packets of the greatest length.
func TestAllLong(t *testing.T) {
	e := made(2)
	for k := range mostFlights {
		data := make([]byte, mostBytes)
		data[0], data[mostBytes-1] = byte(k), byte(k+1)
		want(t, "P23.2: Send", e.Send(0, 1, data), api.OK)
	}
	want(t, "P23.4: Copy", e.Copy(255), api.ErrEtherFull)
	for k, f := range e.List() {
		if len(f.Data) != mostBytes || f.Data[0] != byte(k) || f.Data[mostBytes-1] != byte(k+1) {
			t.Fatalf("P23.6: packet %d: %d bytes", k, len(f.Data))
		}
	}
}

// TestManyCalls: a network that lives long.
func TestManyCalls(t *testing.T) {
	p := pen.Seeded(7)
	e := made(4)
	flying := 0
	for k := range 100000 {
		switch p.Below(5) {
		case 0, 1:
			if e.Send(p.Below(4), p.Below(4), []byte{byte(k)}) == api.OK {
				flying++
			}
		case 2:
			if e.Copy(p.Below(260)) == api.OK {
				flying++
			}
		case 3:
			if _, ok := e.Deliver(p.Below(260)); ok {
				flying--
			}
		case 4:
			if e.Drop(p.Below(260)) {
				flying--
			}
		}
		e.Flip(p.Below(260), p.Below(9))
	}
	want(t, "P23.8: in flight", len(e.List()), flying)
}
