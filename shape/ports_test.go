package shape_test

import (
	"math"
	"testing"

	"eddy/shape"
)

type ports struct{ inLow, inHigh, outLow, outHigh int }

func portsOf(kind int) ports {
	a, b, c, d := shape.Ports(kind)
	return ports{a, b, c, d}
}

func TestPortsOfKinds(t *testing.T) {
	for k, want := range []ports{
		{0, 0, 1, 1}, {1, 1, 1, 1}, {1, 1, 1, 1}, {1, 1, 1, 1}, {1, 4, 1, 1}, {1, 1, 1, 4}, {1, 1, 1, 4},
		{2, 2, 1, 1}, {1, 1, 1, 1}, {1, 1, 1, 1}, {2, 2, 1, 1}, {1, 1, 2, 2}, {1, 1, 0, 0},
	} {
		if got := portsOf(k + 1); got != want {
			t.Errorf("P7.1: Ports(%d) answers %v, want %v", k+1, got, want)
		}
		r := table[k]
		if r.kind != k+1 || want != (ports{r.inLow, r.inHigh, r.outLow, r.outHigh}) {
			t.Errorf("the model's table says %v of kind %d", r, k+1)
		}
	}
}

func TestPortsOfNoKind(t *testing.T) {
	for _, kind := range []int{math.MinInt, -1 << 32, -14, -13, -1, 0, 14, 15, 99, 1 << 32, 1<<32 + 1, math.MaxInt - 1, math.MaxInt} {
		if got := portsOf(kind); got != (ports{-1, -1, -1, -1}) {
			t.Errorf("P7.1: Ports(%d) answers %v, want four times -1", kind, got)
		}
	}
}

// TestPortsAreThoseThatBuildAsksFor: a task of each kind, with each number of ports that a task can be given.
func TestPortsAreThoseThatBuildAsksFor(t *testing.T) {
	for _, r := range table {
		if r.name == "head" || r.name == "tail" {
			continue
		}
		p := portsOf(r.kind)
		for ins := range 5 {
			for outs := range 5 {
				_, at, e := shape.Build(around(r.name, ins, outs))
				fit := ins >= p.inLow && ins <= p.inHigh && outs >= p.outLow && outs <= p.outHigh
				if fit != (e == 0) || at != 0 {
					t.Errorf("P7.1: Ports(%d) answers %v, Build of a task with %d in ports and %d out ports error %d at %d", r.kind, p, ins, outs, e, at)
				}
			}
		}
	}
}
