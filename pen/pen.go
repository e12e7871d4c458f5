// Package pen: plans, tapes, states and configurations for the tests of the layers, drawn from a seed (the same ones for the same seed) or read from texts, and lists for these tests. No layer calls it.
package pen

// Pen: where the drawing stands.
type Pen struct {
	at uint64
}

// Seeded gives the pen of a seed.
func Seeded(seed int) *Pen { return &Pen{at: uint64(seed)} }

// next mixes the bits of a count that goes on by an odd step, so that seeds that lie side by side give unlike numbers.
func (p *Pen) next() uint64 {
	p.at += 0x9e3779b97f4a7c15
	z := p.at
	z = (z ^ z>>30) * 0xbf58476d1ce4e5b9
	z = (z ^ z>>27) * 0x94d049bb133111eb
	return z ^ z>>31
}

// Below draws a number from 0 to n - 1; 0, if n isn't above 0.
func (p *Pen) Below(n int) int {
	if n <= 0 {
		return 0
	}
	return int(p.next() % uint64(n))
}

// Between draws a number from low to high.
func (p *Pen) Between(low, high int) int { return low + p.Below(high-low+1) }

// Order draws an order of the numbers from 0 to n - 1.
func (p *Pen) Order(n int) []int {
	all := make([]int, n)
	for k := range n {
		at := p.Below(k + 1)
		all[k], all[at] = all[at], k
	}
	return all
}

// One draws one of several things.
func One[T any](p *Pen, first T, others ...T) T {
	if k := p.Below(len(others) + 1); k > 0 {
		return others[k-1]
	}
	return first
}
