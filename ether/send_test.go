package ether_test

import (
	"bytes"
	"fmt"
	"math"
	"testing"

	"eddy/api"
	"eddy/ether"
)

func TestNew(t *testing.T) {
	for _, machines := range []int{math.MinInt, -8, -1, 0, 9, 10, 256, 257, 264, 1 << 32, math.MaxInt} {
		e, n := ether.New(machines)
		if e != nil || n != api.ErrEtherNew {
			t.Errorf("P23.1: New(%d): %v, %d", machines, e, n)
		}
	}
	for machines := 1; machines <= mostMachines; machines++ {
		want(t, fmt.Sprintf("P23.1: in flight in a new network of %d", machines), len(made(machines).List()), 0)
		want(t, "P23.1: Drop in a new network", made(machines).Drop(0), false)
	}
}

// TestMachines: every pair of numbers, in networks of every size.
func TestMachines(t *testing.T) {
	numbers := append(upTo(-3, 12), math.MinInt, math.MaxInt, 1<<32, 1<<32+1, 256, 257)
	for machines := 1; machines <= mostMachines; machines++ {
		e := made(machines)
		for _, from := range numbers {
			for _, to := range numbers {
				wanted, told := api.ErrEtherNode, ""
				if from >= 0 && to >= 0 && from < machines && to < machines && from != to {
					wanted, told = api.OK, fmt.Sprintf("%d>%d:07", from, to)
				}
				what := fmt.Sprintf("P23.2: Send(%d, %d) among %d machines", from, to, machines)
				want(t, what, e.Send(from, to, []byte{7}), wanted)
				want(t, what, tellIn(e), told)
				e.Drop(0)
			}
		}
	}
}

// wrongMachines: of three.
func wrongMachines() [][2]int {
	return [][2]int{{-1, 0}, {0, -1}, {3, 0}, {0, 3}, {0, 0}, {1, 1}, {2, 2}, {3, 3}, {-1, -1}, {-1, 3}}
}

// TestErrorsOfSend: each error ahead of the next; none changes anything.
func TestErrorsOfSend(t *testing.T) {
	for _, count := range []int{0, 255, 256} {
		e := filled(count)
		before := tellIn(e)
		for _, size := range []int{0, 1, mostBytes, mostBytes + 1, 1 << 20} {
			for _, c := range wrongMachines() {
				want(t, fmt.Sprintf("P23.2: Send(%d, %d, %d bytes) with %d in flight", c[0], c[1], size, count), e.Send(c[0], c[1], make([]byte, size)), api.ErrEtherNode)
			}
			if size > mostBytes {
				want(t, fmt.Sprintf("P23.2: Send(0, 2, %d bytes) with %d in flight", size, count), e.Send(0, 2, make([]byte, size)), api.ErrEtherLong)
			} else if count == 256 {
				want(t, fmt.Sprintf("P23.2: Send(0, 2, %d bytes) with %d in flight", size, count), e.Send(0, 2, make([]byte, size)), api.ErrEtherFull)
			}
		}
		want(t, "P23.2: in flight behind the errors", tellIn(e), before)
	}
}

// TestSizes: a packet of any length is laid at the end, byte for byte.
func TestSizes(t *testing.T) {
	e := made(2)
	var sent [][]byte
	for _, size := range []int{0, 1, 2, 7, 8, 255, 256, 4095, 4096, 32767, 32768, 32769, 32775, 32776} {
		data := make([]byte, size)
		for k := range data {
			data[k] = byte(k*7 + k/256 + size)
		}
		want(t, fmt.Sprintf("P23.2: Send of %d bytes", size), e.Send(1, 0, data), api.OK)
		sent = append(sent, bytes.Clone(data))
		l := e.List()
		if len(l) != len(sent) {
			t.Fatalf("P23.2: %d in flight, want %d", len(l), len(sent))
		}
		for k, f := range l {
			if f.From != 1 || f.To != 0 || !bytes.Equal(f.Data, sent[k]) {
				t.Fatalf("P23.2: packet %d behind a Send of %d bytes is from %d to %d, with %d bytes", k, size, f.From, f.To, len(f.Data))
			}
		}
	}
	for k, data := range sent {
		if f, ok := e.Deliver(0); !ok || !bytes.Equal(f.Data, data) {
			t.Errorf("P23.3: packet %d: %d bytes, %v, want the %d bytes that were sent", k, len(f.Data), ok, len(data))
		}
	}
}

// TestFull: the 256th packet is taken, the 257th isn't; what is full has room again behind a Deliver or a Drop, for one.
func TestFull(t *testing.T) {
	for _, count := range []int{0, 1, 254, 255} {
		e := filled(count)
		want(t, fmt.Sprintf("P23.2: Send with %d in flight", count), e.Send(2, 1, nil), api.OK)
		want(t, "P23.2: behind it", tell(e.List()[count]), "2>1:")
	}
	for _, i := range []int{0, 1, 100, 254, 255} {
		for _, what := range []string{"deliver", "drop"} {
			e := filled(256)
			want(t, "P23.2: Send with 256 in flight", e.Send(2, 1, nil), api.ErrEtherFull)
			want(t, "P23.2: in flight", tellIn(e), tellFilled(upTo(0, 256)...))
			_, _, ok := call{what: what, a: i}.on(e)
			want(t, "P23.3: "+what, ok, true)
			want(t, "P23.2: Send behind it", e.Send(2, 1, []byte{9}), api.OK)
			want(t, "P23.2: Send, full again", e.Send(2, 1, nil), api.ErrEtherFull)
			want(t, "P23.2: in flight", tellIn(e), tellFilled(append(upTo(0, i), upTo(i+1, 256)...)...)+" 2>1:09")
		}
	}
}
