package ether_test

import (
	"fmt"
	"testing"

	"eddy/api"
	"eddy/pen"
)

// shortCalls: the calls of which all short scripts are made.
func shortCalls() []call {
	return []call{
		{what: "send", a: 0, b: 1, data: []byte{1}},
		{what: "send", a: 1, b: 0},
		{what: "send", a: 1, b: 1, data: []byte{2}},
		{what: "deliver", a: 0},
		{what: "deliver", a: 1},
		{what: "drop", a: 0},
		{what: "drop", a: 1},
		{what: "copy", a: 0},
		{what: "copy", a: 1},
		{what: "flip", a: 0, b: 7},
		{what: "flip", a: 1, b: 0},
		{what: "flip", a: 0, b: 8},
	}
}

// together makes a script's calls at a network and its model, and holds what they answer, and what is in flight then, against each other.
func together(t *testing.T, script []call, n, model network) {
	t.Helper()
	for k, c := range script {
		got, wanted := c.told(n), c.told(model)
		if got != wanted {
			t.Fatalf("call %d of %v: %.200s, want %.200s", k, script[:k+1], got, wanted)
		}
		if got, wanted = tellIn(n), tellIn(model); got != wanted {
			t.Fatalf("in flight behind call %d of %v: %.200s, want %.200s", k, script[:k+1], got, wanted)
		}
	}
}

// TestAllShortScripts: all scripts of five calls.
func TestAllShortScripts(t *testing.T) {
	scripts := 0
	for script := range pen.Rows(shortCalls(), 5) {
		together(t, script, made(2), &plain{machines: 2})
		scripts++
	}
	want(t, "scripts", scripts, 12*12*12*12*12)
}

// A drawer draws scripts for a network; it knows how many packets are in flight, so that it can choose one, or just none.
type drawer struct {
	*pen.Pen
	machines int
	most     int // of bytes, in most packets
}

func (d *drawer) data() []byte {
	size := d.Below(d.most + 1)
	if d.Below(200) == 0 {
		size = d.Between(mostBytes-1, mostBytes+2)
	}
	b := make([]byte, size)
	for k := range b {
		b[k] = byte(d.Below(256))
	}
	return b
}

// packet gives the number of one of so many packets; seldom, one that none has.
func (d *drawer) packet(flying int) int {
	if d.Below(12) == 0 || flying == 0 {
		return pen.One(d.Pen, -1, flying, flying+1)
	}
	return pen.One(d.Pen, 0, flying-1, d.Below(flying), d.Below(flying))
}

// machine gives the number of a machine; seldom, one that none has.
func (d *drawer) machine() int {
	if d.Below(15) == 0 {
		return pen.One(d.Pen, -1, d.machines, d.machines+1)
	}
	return d.Below(d.machines)
}

// bit gives the number of a bit of a packet; seldom, one that none has.
func (d *drawer) bit(bytes int) int {
	if d.Below(8) == 0 || bytes == 0 {
		return pen.One(d.Pen, -1, 8*bytes, 8*bytes+1)
	}
	return pen.One(d.Pen, 0, 8*bytes-1, d.Below(8*bytes), d.Below(8*bytes))
}

// next draws the next call; kinds says how often each is drawn.
func (d *drawer) next(n network, kinds ...string) call {
	in := n.List()
	c := call{what: kinds[d.Below(len(kinds))]}
	if c.what == "send" {
		c.a, c.b, c.data = d.machine(), d.machine(), d.data()
		return c
	}
	c.a = d.packet(len(in))
	if c.what == "flip" {
		c.b = d.Below(9) - 1
		if c.a >= 0 && c.a < len(in) {
			c.b = d.bit(len(in[c.a].Data))
		}
	}
	return c
}

// TestDrawnScripts: long scripts among machines of each number.
func TestDrawnScripts(t *testing.T) {
	cases := map[string]int{}
	for seed := range 300 {
		d := &drawer{Pen: pen.Seeded(seed), machines: seed%8 + 1, most: 4}
		n, model := made(d.machines), &plain{machines: d.machines}
		for range 100 {
			c := d.next(n, "send", "send", "send", "deliver", "drop", "copy", "copy", "flip", "flip")
			flying := len(n.List())
			f, e, ok := c.on(n)
			g, wantE, wantOk := c.on(model)
			if tell(f) != tell(g) || e != wantE || ok != wantOk {
				t.Fatalf("seed %d: %v: %.100s, %d, %v, want %.100s, %d, %v", seed, c, tell(f), e, ok, tell(g), wantE, wantOk)
			}
			if tellIn(n) != tellIn(model) {
				t.Fatalf("seed %d: in flight behind %v: %.200s, want %.200s", seed, c, tellIn(n), tellIn(model))
			}
			cases[fmt.Sprintf("%s %d %v", c.what, e, ok)]++
			if c.what != "send" && ok && c.a == flying-1 {
				cases["the last one"]++
			}
		}
	}
	wantCases(t, cases, map[string]int{"send 0 false": 4000, "send 221 false": 1500, "send 222 false": 10, "deliver 0 true": 1500, "deliver 0 false": 200,
		"drop 0 true": 1500, "drop 0 false": 200, "copy 0 false": 3000, "copy 224 false": 400, "flip 0 true": 2000, "flip 0 false": 800, "the last one": 1500})
}

// TestFullScripts: drawn scripts that begin with a network that is full, or nearly so.
func TestFullScripts(t *testing.T) {
	cases := map[string]int{}
	for seed := range 40 {
		d := &drawer{Pen: pen.Seeded(seed), machines: 3, most: 2}
		n, model := filled(256-seed%3), &plain{machines: 3}
		for _, f := range n.List() {
			model.Send(f.From, f.To, f.Data)
		}
		for range 60 {
			c := d.next(n, "send", "send", "copy", "copy", "copy", "deliver", "drop", "flip")
			_, e, _ := c.on(n)
			_, wanted, _ := c.on(model)
			want(t, fmt.Sprintf("seed %d: %v", seed, c), e, wanted)
			if tellIn(n) != tellIn(model) {
				t.Fatalf("seed %d: in flight behind %v: %.200s, want %.200s", seed, c, tellIn(n), tellIn(model))
			}
			cases[fmt.Sprintf("%s %d", c.what, e)]++
		}
	}
	wantCases(t, cases, map[string]int{"send 0": 100, "send 223": 100, "copy 0": 150, "copy 223": 150, "copy 224": 20})
}

// TestTwoNetworks: networks beside one another that are told different things, in turns, by the same caller.
func TestTwoNetworks(t *testing.T) {
	for seed := range 60 {
		d := &drawer{Pen: pen.Seeded(seed), most: 3}
		var all []network
		var models []*plain
		for k := range 3 {
			machines := (seed+k)%7 + 2
			all, models = append(all, made(machines)), append(models, &plain{machines: machines})
		}
		for range 120 {
			k := d.Below(3)
			d.machines = models[k].machines
			c := d.next(all[k], "send", "send", "send", "deliver", "drop", "copy", "copy", "flip", "flip")
			want(t, fmt.Sprintf("seed %d: network %d: %v", seed, k, c), c.told(all[k]), c.told(models[k]))
			for other := range all {
				want(t, fmt.Sprintf("seed %d: network %d behind a call of network %d", seed, other, k), tellIn(all[other]), tellIn(models[other]))
			}
		}
	}
}

// TestErrorsChangeNothing: what answers an error or false leaves all as it was, and so does what is called behind it.
func TestErrorsChangeNothing(t *testing.T) {
	cases := 0
	for seed := range 150 {
		d := &drawer{Pen: pen.Seeded(seed), machines: 3, most: 3}
		n, calm := made(3), made(3)
		for range 80 {
			c := d.next(n, "send", "send", "send", "deliver", "drop", "copy", "copy", "flip", "flip")
			before := tellIn(n)
			f, e, ok := c.on(n)
			if e == api.OK && (ok || c.what == "send" || c.what == "copy") {
				g, _, _ := c.on(calm)
				want(t, fmt.Sprintf("seed %d: %v at a network without errors", seed, c), tell(f), tell(g))
				want(t, fmt.Sprintf("seed %d: behind %v at a network without errors", seed, c), tellIn(n), tellIn(calm))
				continue
			}
			cases++
			want(t, fmt.Sprintf("%s: seed %d: behind %v", rules, seed, c), tellIn(n), before)
		}
	}
	wantCases(t, map[string]int{"errors": cases}, map[string]int{"errors": 2000})
}
