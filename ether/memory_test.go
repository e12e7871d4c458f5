package ether_test

import (
	"fmt"
	"runtime"
	"slices"
	"sync"
	"testing"

	"eddy/api"
	"eddy/memory"
	"eddy/pen"
)

// roomy gives the same bytes with spare room behind them.
func roomy(b []byte) []byte { return memory.Roomy(b, nil) }

// drawn gives a script of drawn calls, as it fits a network of three machines.
func drawn(seed, count int) []call {
	d := &drawer{Pen: pen.Seeded(seed), machines: 3, most: 6}
	model := &plain{machines: 3}
	var script []call
	for range count {
		c := d.next(model, "send", "send", "send", "deliver", "deliver", "drop", "copy", "copy", "flip")
		c.on(model)
		script = append(script, c)
	}
	return script
}

// TestHandedIn: what is handed in is the same behind the call, spare room too, and isn't kept: it is written over then. What is answered is the same at the end of the script, and all of it has its own memory.
func TestHandedIn(t *testing.T) {
	cases := map[string]int{}
	for seed := range 100 {
		n, model := made(3), &plain{machines: 3}
		var kept []*memory.Memory
		var told []string
		script := drawn(seed, 50)
		for k, c := range script {
			c.data = roomy(c.data)
			handed := memory.Of(c.data)
			before := handed.Told()
			f, e, ok := c.on(n)
			if handed.Told() != before {
				t.Fatalf("%s: call %d of %v changed what it was handed", rules, k, script)
			}
			g, _, _ := c.on(model)
			handed.Scribble()
			first, second := n.List(), n.List()
			if tell(f) != tell(g) || tell(first...) != tellIn(model) || tell(second...) != tellIn(model) {
				t.Fatalf("%s: call %d of %v answers what was written over: %.200s, then %.200s", rules, k, script, tell(f), tell(first...))
			}
			m := memory.Of(f, first, second, c.data)
			kept, told = append(kept, m), append(told, m.Told())
			cases[fmt.Sprintf("%s %d %v", c.what, e, ok)]++
		}
		for k, m := range kept {
			if m.Told() != told[k] {
				t.Fatalf("%s: what call %d of %v answered has changed", rules, k, script)
			}
			if !m.Apart() {
				t.Fatalf("%s: lists that call %d of %v answered share memory", rules, k, script)
			}
		}
	}
	wantCases(t, cases, map[string]int{"send 0 false": 700, "send 221 false": 500, "deliver 0 true": 500, "deliver 0 false": 100, "copy 0 false": 400})
}

// TestAnswersWrittenOver: who writes over what was answered, and appends to it, touches neither the network nor a later answer.
func TestAnswersWrittenOver(t *testing.T) {
	for seed := range 300 {
		n, model := made(3), &plain{machines: 3}
		for k, c := range drawn(seed, 50) {
			f, _, _ := c.on(n)
			g, _, _ := c.on(model)
			want(t, fmt.Sprintf("%s: seed %d: call %d", rules, seed, k), tell(f), tell(g))
			l := n.List()
			want(t, fmt.Sprintf("%s: seed %d: in flight behind call %d", rules, seed, k), tell(l...), tellIn(model))
			m := memory.Of(f, l)
			m.Extend()
			m.Scribble()
		}
	}
}

// TestAllApart: a packet, its copies, what is listed and delivered of them, and another network that was sent the same, share no memory.
func TestAllApart(t *testing.T) {
	for _, size := range []int{1, 8, 33, mostBytes} {
		data := roomy(make([]byte, size))
		n, other := made(3), made(3)
		answers := []any{data}
		for range 3 {
			n.Send(0, 1, data)
			other.Send(0, 1, data)
			n.Copy(0)
			answers = append(answers, n.List(), n.List(), other.List())
		}
		for _, i := range []int{4, 0, 2, 1, 0, 0} {
			f, ok := n.Deliver(i)
			want(t, "P23.3: Deliver", ok, true)
			answers = append(answers, f)
		}
		f, _ := other.Deliver(2)
		if !memory.Of(append(answers, f)...).Apart() {
			t.Errorf("%s: what two networks answered of %d bytes shares memory", rules, size)
		}
		want(t, "P23.6: what is left", tellIn(other), tell(made0(size), made0(size)))
	}
}

// made0 gives a packet from 0 to 1 of so many bytes 0.
func made0(size int) api.Flight { return api.Flight{From: 0, To: 1, Data: make([]byte, size)} }

// TestCutOut: what was listed before a packet is taken out stays, wherever that one stood, and what is laid behind it then isn't seen in it.
func TestCutOut(t *testing.T) {
	for i := range 6 {
		for _, what := range []string{"deliver", "drop"} {
			n := filled(6)
			before := n.List()
			call{what: what, a: i}.on(n)
			between := n.List()
			n.Send(2, 0, []byte{9})
			n.Flip(0, 1)
			rest := slices.Delete(upTo(0, 6), i, i+1)
			want(t, rules+": listed before", tell(before...), tellFilled(upTo(0, 6)...))
			want(t, rules+": listed between", tell(between...), tellFilled(rest...))
			want(t, "P23.2: the last one", tell(n.List()[5]), "2>0:09")
		}
	}
}

// TestNilAndEmpty: they are the same.
func TestNilAndEmpty(t *testing.T) {
	for _, none := range [][]byte{nil, {}, make([]byte, 0, 8), []byte("abc")[:0]} {
		e := made(2)
		want(t, rules+": Send of none", e.Send(0, 1, none), api.OK)
		want(t, rules+": Send of none", tellIn(e), "0>1:")
		want(t, rules+": Flip of none", e.Flip(0, 0), false)
		want(t, rules+": Copy of none", e.Copy(0), api.OK)
		for range 2 {
			f, ok := e.Deliver(0)
			want(t, rules+": Deliver of none", tell(f), "0>1:")
			want(t, rules+": Deliver of none", ok, true)
		}
		want(t, rules+": Send of none from nowhere", e.Send(1, 1, none), api.ErrEtherNode)
	}
}

// inUse tells how much memory is in use.
func inUse() int {
	runtime.GC()
	var m runtime.MemStats
	runtime.ReadMemStats(&m)
	return int(m.HeapAlloc)
}

// TestNothingMoreIsKept: packets that came out or were lost are let go, wherever they stood.
func TestNothingMoreIsKept(t *testing.T) {
	data := make([]byte, mostBytes)
	for _, place := range []func(flying int) int{
		func(int) int { return 0 },
		func(flying int) int { return flying - 1 },
		func(flying int) int { return flying / 2 },
	} {
		before := inUse()
		e := made(2)
		for range 2 {
			for k := range mostFlights {
				e.Send(0, 1, data)
				if k < mostFlights/2 {
					e.Copy(0)
					e.Drop(place(len(e.List())))
				}
			}
			for left := mostFlights; left > 1; left-- {
				if left%2 == 0 {
					e.Drop(place(left))
				} else {
					e.Deliver(place(left))
				}
			}
			if more := inUse() - before; more > mostBytes*20 {
				t.Errorf("what is kept behind %d packets has %d bytes", mostFlights, more)
			}
			e.Drop(0)
		}
		want(t, "P23.6: in flight", tellIn(e), "")
	}
}

// TestAtTheSameTime: networks beside one another that are called at the same time, with the same bytes in hand.
func TestAtTheSameTime(t *testing.T) {
	script := drawn(1, 300)
	var wait sync.WaitGroup
	told := make([][]string, 8)
	for k := range told {
		wait.Go(func() {
			n := made(3)
			for _, c := range script {
				told[k] = append(told[k], c.told(n), tellIn(n))
			}
		})
	}
	wait.Wait()
	for k := range told {
		if !slices.Equal(told[k], told[0]) {
			t.Errorf("%s: network %d told otherwise than network 0", rules, k)
		}
	}
}
