package ether_test

import (
	"strings"

	"eddy/api"
)

// A plain network is the chapter read a second time: it forgets no packet that was ever laid, but marks those that are gone; and a packet is its bits, one sign each.
type plain struct {
	machines int
	laid     []plainPacket
}

type plainPacket struct {
	from, to int
	bits     string
	gone     bool
}

func (p plainPacket) flight() api.Flight {
	f := api.Flight{From: p.from, To: p.to}
	for k := 0; k < len(p.bits); k += 8 {
		weight, sum := 1, 0
		for _, bit := range p.bits[k : k+8] {
			sum += weight * int(bit-'0')
			weight *= 2
		}
		f.Data = append(f.Data, byte(sum))
	}
	return f
}

func bitsOf(data []byte) string {
	var all strings.Builder
	for _, b := range data {
		for range 8 {
			all.WriteByte('0' + b%2)
			b /= 2
		}
	}
	return all.String()
}

// flying gives the places of the packets in flight.
func (n *plain) flying() []int {
	var all []int
	for k, p := range n.laid {
		if !p.gone {
			all = append(all, k)
		}
	}
	return all
}

// find gives packet number i.
func (n *plain) find(i int) *plainPacket {
	for k, place := range n.flying() {
		if k == i {
			return &n.laid[place]
		}
	}
	return nil
}

func (n *plain) lay(p plainPacket) api.Errno {
	if len(n.flying()) == 256 {
		return api.ErrEtherFull
	}
	n.laid = append(n.laid, p)
	return api.OK
}

func (n *plain) Send(from, to int, data []byte) api.Errno {
	known := 0
	for machine := range n.machines {
		if machine == from || machine == to {
			known++
		}
	}
	switch {
	case known != 2:
		return api.ErrEtherNode
	case len(data) > 32776:
		return api.ErrEtherLong
	}
	return n.lay(plainPacket{from: from, to: to, bits: bitsOf(data)})
}

func (n *plain) Deliver(i int) (api.Flight, bool) {
	p := n.find(i)
	if p == nil {
		return api.Flight{}, false
	}
	p.gone = true
	return p.flight(), true
}

func (n *plain) Drop(i int) bool {
	_, ok := n.Deliver(i)
	return ok
}

func (n *plain) Copy(i int) api.Errno {
	p := n.find(i)
	if p == nil {
		return api.ErrEtherNone
	}
	return n.lay(*p)
}

func (n *plain) Flip(i, bit int) bool {
	p := n.find(i)
	if p == nil || bit < 0 || bit >= len(p.bits) {
		return false
	}
	other := "1"
	if p.bits[bit] == '1' {
		other = "0"
	}
	p.bits = p.bits[:bit] + other + p.bits[bit+1:]
	return true
}

func (n *plain) List() []api.Flight {
	var all []api.Flight
	for _, place := range n.flying() {
		all = append(all, n.laid[place].flight())
	}
	return all
}
